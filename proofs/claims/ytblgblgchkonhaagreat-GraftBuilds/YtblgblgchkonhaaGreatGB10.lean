import Derived.Test.YtblgblgchkonhaaGreatGB09
import Derived.Test.YtblgblgchkonhaaGreatGB06
import Derived.Test.YtblgblgchkonhaaGreatGB05
import Derived.Test.YtblgblgchkonhaaGreatGB02
import Derived.Test.YtblgblgchkonhaaGreatGB04
namespace Go.Proofs.YtblgblgchkonhaaGreat
set_option maxRecDepth 100000
set_option linter.unusedVariables false
open Go.RowKit
attribute [local go_sem ↓] Go.wp_at_zero Go.wp_at_succ
theorem RhB.rdA {B:Nat→Prop} {w:World} {r room:Nat} {v:Value} {N:List Nd} (p:RhB B w r room v N):∃ ao cap,v=.slice ao N.length cap∧RdH w r N ao cap:=by
 obtain ⟨ao,cap,e⟩:=p.row.shape
 refine ⟨ao,cap,e,by rw [← e];exact p.cells.2,?_,Nat.le_trans p.le p.rm2,inl_of_may p.may,p.ac,p.may⟩
 have:=p.row
 rw [e] at this
 exact this.mem.weak
set_option maxHeartbeats 2000000 in
theorem rb_rule {w:World} {rv:Value} {r:Nat} {ro:Option Addr} {rc:Nat} {R:List (List (Int × List Int))} (hRm:R.length≤maxLen) (io po eo:Option Addr) (il ic pl pc el ec:Nat) (rule node:Int) (hr:¬ (0≤rule∧rule<(R.length:Int))) :
  Calls Tryz.prog 17 #[rv,.agg #[.slice io il ic,.slice po pl pc,.slice eo el ec,.slice ro R.length rc],.pointer (some ⟨r,0,none⟩),.int .i64 rule,.int .i64 node] w fun e w' => e=.returned (.tuple #[.int .i64 0,fltV 132 0 91])∧Same0 w w' := by
 obtain ⟨V0,hV0⟩:∃ V0,V0=w.alloc (.cells #[.slice io il ic,.slice po pl pc,.slice eo el ec,.slice ro R.length rc] 58):=⟨_,rfl⟩
 obtain ⟨W0,hW0⟩:∃ W0,W0=V0.alloc (.cells #[.int .i64 0,.int .i64 0,.int .i64 0,.bool false,.int .i64 0,.int .i64 0] 42):=⟨_,rfl⟩
 have kv:Same0 w V0:=by rw [hV0];exact (Kept.refl _ w).alloc _
 have kw:Same0 V0 W0:=by rw [hW0];exact (Kept.refl _ V0).alloc _
 have k0:Same0 w W0:=kv.trans' kw
 have zv:V0.heap.size=w.heap.size+1:=by rw [hV0];simp
 have n0:W0.heap[w.heap.size]? = some (.cells #[.slice io il ic,.slice po pl pc,.slice eo el ec,.slice ro R.length rc] 58 (0,0)):=kw.at0 (by rw [hV0];exact heap_alloc_new w _)
 have h0:W0.heap[w.heap.size+1]? = some (.cells #[.int .i64 0,.int .i64 0,.int .i64 0,.bool false,.int .i64 0,.int .i64 0] 42 (0,0)):=by rw [hW0,← zv];exact heap_alloc_new V0 _
 obtain ⟨e0,e1,e2,e3⟩:=boxT4 n0
 have KF:Hid (∀ wr c0 c1 c2 c3 c4 c5,Same0 W0 wr→Same0 w (put6 wr (w.heap.size+1) c0 c1 c2 c3 c4 c5)):=fun wr c0 c1 c2 c3 c4 c5 hk=>(k0.trans' hk).trans (put6_kept _ _ _ _ _ _ _ _) (fun i hi e=>by omega)
 obtain ⟨⟨b0,b1,b2,b3,b4,b5⟩,g0,g1,g2,g3,g4,g5⟩:=boxF6 h0
 unfold maxLen at hRm
 have K0:Hid (Same0 W0 W0):=Kept.refl _ _
 by_cases h1:rule<0
 ·clear hr n0 h0
  go_enter Tryz.func17,Tryz.ntmps17
  go_upto_region 1 with fail
  rw [← hV0,← hW0]
  clear hV0 hW0 kv kw zv
  go_wp2_with fail
  exact bodyPost_ret (v:=.tuple #[.int .i64 0,fltV 132 0 91]) (by simp [results,Tryz.results17,go_sem,b0,b1,b2,b3,b4,b5,fltV]) rfl ⟨rfl,KF.out _ _ _ _ _ _ _ K0.out⟩
 ·have h2:(R.length:Int)≤rule:=by omega
  clear hr n0 h0
  go_enter Tryz.func17,Tryz.ntmps17
  go_upto_region 1 with fail
  rw [← hV0,← hW0]
  clear hV0 hW0 kv kw zv
  go_wp2_with fail
  exact bodyPost_ret (v:=.tuple #[.int .i64 0,fltV 132 0 91]) (by simp [results,Tryz.results17,go_sem,b0,b1,b2,b3,b4,b5,fltV]) rfl ⟨rfl,KF.out _ _ _ _ _ _ _ K0.out⟩
set_option maxHeartbeats 2000000 in
theorem rb_node {B:Nat→Prop} {w:World} {rv v:Value} {r room:Nat} {N:List Nd} (p:RhB B w r room v N) {ro:Option Addr} {rc:Nat} {R:List (List (Int × List Int))} (hRm:R.length≤maxLen) (io po eo:Option Addr) (il ic pl pc el ec:Nat) (i:Nat) (hi:i<R.length) (node:Int) (hn:¬ (0≤node∧node<(N.length:Int))) :
  Calls Tryz.prog 17 #[rv,.agg #[.slice io il ic,.slice po pl pc,.slice eo el ec,.slice ro R.length rc],.pointer (some ⟨r,0,none⟩),.int .i64 (i:Int),.int .i64 node] w fun e w' => e=.returned (.tuple #[.int .i64 0,fltV 132 0 112])∧Same0 w w' := by
 obtain ⟨V0,hV0⟩:∃ V0,V0=w.alloc (.cells #[.slice io il ic,.slice po pl pc,.slice eo el ec,.slice ro R.length rc] 58):=⟨_,rfl⟩
 obtain ⟨W0,hW0⟩:∃ W0,W0=V0.alloc (.cells #[.int .i64 0,.int .i64 0,.int .i64 0,.bool false,.int .i64 0,.int .i64 0] 42):=⟨_,rfl⟩
 have kv:Same0 w V0:=by rw [hV0];exact (Kept.refl _ w).alloc _
 have kw:Same0 V0 W0:=by rw [hW0];exact (Kept.refl _ V0).alloc _
 have k0:Same0 w W0:=kv.trans' kw
 have zv:V0.heap.size=w.heap.size+1:=by rw [hV0];simp
 have n0:W0.heap[w.heap.size]? = some (.cells #[.slice io il ic,.slice po pl pc,.slice eo el ec,.slice ro R.length rc] 58 (0,0)):=kw.at0 (by rw [hV0];exact heap_alloc_new w _)
 have h0:W0.heap[w.heap.size+1]? = some (.cells #[.int .i64 0,.int .i64 0,.int .i64 0,.bool false,.int .i64 0,.int .i64 0] 42 (0,0)):=by rw [hW0,← zv];exact heap_alloc_new V0 _
 obtain ⟨e0,e1,e2,e3⟩:=boxT4 n0
 have KF:Hid (∀ wr c0 c1 c2 c3 c4 c5,Same0 W0 wr→Same0 w (put6 wr (w.heap.size+1) c0 c1 c2 c3 c4 c5)):=fun wr c0 c1 c2 c3 c4 c5 hk=>(k0.trans' hk).trans (put6_kept _ _ _ _ _ _ _ _) (fun i hi e=>by omega)
 obtain ⟨⟨b0,b1,b2,b3,b4,b5⟩,g0,g1,g2,g3,g4,g5⟩:=boxF6 h0
 unfold maxLen at hRm
 have K0:Hid (Same0 W0 W0):=Kept.refl _ _
 obtain ⟨ao,cap,rfl,rd⟩:=(p.same k0).rdA
 have hle:=rd.le
 have C:=rhas_any rd.c1 (by unfold maxLen;omega) node
 have e9:hasB N.length node=false:=by unfold hasB;simp;omega
 rw [e9] at C
 have i1:(0:Int)≤(i:Int):=by omega
 have i2:(i:Int)<(R.length:Int):=by omega
 clear hn n0 h0 rd p e9
 go_enter Tryz.func17,Tryz.ntmps17
 go_upto_region 1 with fail
 rw [← hV0,← hW0]
 clear hV0 hW0 kv kw zv
 go_wp2_with (first | (go_at_call 44;refine C.mono ?_;rintro e w1 ⟨rfl,h1⟩;have h1:=h1.symm;subst h1))
 exact bodyPost_ret (v:=.tuple #[.int .i64 0,fltV 132 0 112]) (by simp [results,Tryz.results17,go_sem,b0,b1,b2,b3,b4,b5,fltV]) rfl ⟨rfl,KF.out _ _ _ _ _ _ _ K0.out⟩
def Upk (L:List Sym) (N:List Nd) (top:Nat) (Q:List (Int × List Int)) (k:Nat) (l:List Tg):Prop:=l.length=k∧∀ i (h:i<Q.length) (h' : i<l.length),PtR L N (top:Int) Q[i] l[i] 0
theorem Upk.snoc {L:List Sym} {N:List Nd} {top k:Nat} {Q:List (Int × List Int)} {l:List Tg} (h:Upk L N top Q k l) (hk:k<Q.length) {x:Tg} (hx:PtR L N (top:Int) Q[k] x 0):Upk L N top Q (k+1) (l ++ [x]):=by
 obtain ⟨rfl,h2⟩:=h
 refine ⟨by simp,fun i hi hi' => ?_⟩
 by_cases e:i<l.length
 ·rw [List.getElem_append_left e];exact h2 i hi e
 ·obtain rfl:i=l.length:=by simp at hi'; omega
  simpa using hx
theorem newN_snoc (l:List Tg) (x:Tg):newN (l ++ [x])=newN l+if x.1 then 1 else 0:=by
 unfold newN
 rw [List.countP_append]
 simp [List.countP_cons]
set_option maxHeartbeats 8000000 in
theorem rb_err {B:Nat→Prop} {n:Nat} {w:World} {rv v:Value} {L:List Sym} (h:Rl n w rv L) {r room:Nat} {N:List Nd} (p:RhB B w r room v N) {ro:Option Addr} {rc:Nat} {R:List (List (Int × List Int))} (hR:RtAt w ro R) (hRm:R.length≤maxLen) (io po eo:Option Addr) (il ic pl pc el ec:Nat) (i j top:Nat) (hi:i<R.length) (hj:j<N.length) (hres:Res N j top) (hno:¬ ∃ l,BdY L N room R (i:Int) (j:Int) l) :
  Calls Tryz.prog 17 #[rv,.agg #[.slice io il ic,.slice po pl pc,.slice eo el ec,.slice ro R.length rc],.pointer (some ⟨r,0,none⟩),.int .i64 (i:Int),.int .i64 (j:Int)] w fun e w' => ∃ c a y,e=.returned (.tuple #[.int .i64 0,fltV c a y])∧BdE L N room R (i:Int) (j:Int) c a y∧Same0 w w' := by
 obtain ⟨V0,hV0⟩:∃ V0,V0=w.alloc (.cells #[.slice io il ic,.slice po pl pc,.slice eo el ec,.slice ro R.length rc] 58):=⟨_,rfl⟩
 obtain ⟨W0,hW0⟩:∃ W0,W0=V0.alloc (.cells #[.int .i64 0,.int .i64 0,.int .i64 0,.bool false,.int .i64 0,.int .i64 0] 42):=⟨_,rfl⟩
 have kv:Same0 w V0:=by rw [hV0];exact (Kept.refl _ w).alloc _
 have kw:Same0 V0 W0:=by rw [hW0];exact (Kept.refl _ V0).alloc _
 have k0:Same0 w W0:=kv.trans' kw
 have zv:V0.heap.size=w.heap.size+1:=by rw [hV0];simp
 have n0:W0.heap[w.heap.size]? = some (.cells #[.slice io il ic,.slice po pl pc,.slice eo el ec,.slice ro R.length rc] 58 (0,0)):=kw.at0 (by rw [hV0];exact heap_alloc_new w _)
 have h0:W0.heap[w.heap.size+1]? = some (.cells #[.int .i64 0,.int .i64 0,.int .i64 0,.bool false,.int .i64 0,.int .i64 0] 42 (0,0)):=by rw [hW0,← zv];exact heap_alloc_new V0 _
 obtain ⟨e0,e1,e2,e3⟩:=boxT4 n0
 have KF:Hid (∀ wr c0 c1 c2 c3 c4 c5,Same0 W0 wr→Same0 w (put6 wr (w.heap.size+1) c0 c1 c2 c3 c4 c5)):=fun wr c0 c1 c2 c3 c4 c5 hk=>(k0.trans' hk).trans (put6_kept _ _ _ _ _ _ _ _) (fun i hi e=>by omega)
 unfold maxLen at hRm
 obtain ⟨ao,cap,rfl,rd⟩:=(p.same k0).rdA
 have hle:=rd.le
 have hrm:=p.rm2
 have hNr:=p.le
 have C:=rhas_any rd.c1 (by unfold maxLen;omega) (j:Int)
 have e9:hasB N.length (j:Int)=true:=by unfold hasB;simp;omega
 rw [e9] at C
 have i1:(0:Int)≤(i:Int):=by omega
 have i2:(i:Int)<(R.length:Int):=by omega
 obtain ⟨rb,roff,rfl,hrb,hrc⟩:=(hR.same k0).resolve_left (fun e=>by rw [e] at hi;simp at hi)
 obtain ⟨go,gc,c0,PA0,hql⟩:=hrc i hi
 have HRD:Hid (∀ ww,Same0 W0 ww→RdH ww r N ao cap∧Rl n ww rv L∧PaAt ww go R[i]):=fun ww hk=>⟨rd.same hk,(h.same k0).same hk,PA0.same hk⟩
 have HZ:Hid (∀ ww,Same0 W0 ww→ww.heap[w.heap.size+1]? = some (.cells #[.int .i64 0,.int .i64 0,.int .i64 0,.bool false,.int .i64 0,.int .i64 0] 42 (0,0))):=fun ww hk=>hk.at0 h0
 have HRM:Hid (∀ ww,Same0 W0 ww→ww.cell? ⟨r,0,none⟩=some (.int .i64 (room:Int))):=fun ww hk=>(hk.cell (p:=⟨r,0,none⟩) (p.same k0).lt (fun f=>f)).trans (p.same k0).cells.1
 have HNO:Hid (¬ ∃ l,BdY L N room R (i:Int) (j:Int) l):=hno
 have HBE:Hid (∀ c a y,((∃ k cc,BadP L N (top:Int) R[i] k cc∧c=132∧a=(k:Int)∧y=if cc=14 then 14 else 0)∨(∃ l,AllP L N (top:Int) R[i] l∧((oneT 1 l=false∧c=130∧a=0∧y=0)∨(oneT 1 l=true∧¬ N.length+newN l≤room∧c=131∧a=0∧y=111))))→BdE L N room R (i:Int) (j:Int) c a y):=fun c a y q=>.inr (.inr ⟨i,j,top,hi,rfl,rfl,hres,q⟩)
 have HBY:Hid (∀ l,AllP L N (top:Int) R[i] l→oneT 1 l=true→N.length+newN l≤room→False):=fun l a b c=>hno ⟨l,i,j,top,hi,rfl,rfl,hres,a,b,c⟩
 have HRE:Hid (Res N j top):=hres
 have hrs:Hid (∃ so sc,rv=.slice so L.length sc):=row_shape h.1
 have hL64:L.length≤64:=h.2.2.2
 obtain ⟨so,sc,rfl⟩:=hrs.out
 clear hno hres PA0 hrc rd p h hR n0 h0 e9 hrs
 go_enter Tryz.func17,Tryz.ntmps17
 go_upto_region 1 with fail
 rw [← hV0,← hW0]
 clear hV0 hW0 kv kw zv
 go_upto_region 7 with (first | (go_at_call 44;refine C.mono ?_;rintro e w1 ⟨rfl,h1⟩;have h1:=h1.symm;subst h1))
 generalize R[i]=Q at *
 clear C c0 e0 e1 e2 e3
 go_upto_region 8 with fail
 go_loopw [13,14] (fun s13 s14 wr=>∃ (k:Nat) (l:List Tg),k≤Q.length∧s14=.int .i64 (k:Int)∧s13=.int .i64 (newN l:Int)∧newN l≤k∧Hid (Upk L N top Q k l)∧Hid (Same0 W0 wr)) (fun _ s14 _=>Q.length-(intOf s14).toNat)
 case atStart=>exact ⟨0,[],Nat.zero_le _,rfl,rfl,Nat.le_refl _,⟨rfl,fun i hi hi' => by simp at hi'⟩,Kept.refl _ _⟩
 case round=>
  obtain ⟨k,l,hk,rfl,rfl,hnk,U,KR⟩:=hrel
  obtain ⟨rdR,rlR,paR⟩:=HRD.out wr KR.out
  obtain ⟨⟨b0,b1,b2,b3,b4,b5⟩,g0,g1,g2,g3,g4,g5⟩:=boxF6 (HZ.out wr KR.out)
  by_cases hlt:k<Q.length
  ·obtain ⟨tb,toff,rfl,htb,hc⟩:=paR.resolve_left (fun e=>by rw [e] at hlt;simp at hlt)
   obtain ⟨yo,yc,c0,c1,hy,hym⟩:=hc k hlt
   have j1:(0:Int)≤(k:Int):=by omega
   have j2:(k:Int)<(Q.length:Int):=by omega
   have HB:Hid (∀ (x:Tg) (cc:Int),cc≠0→PtR L N (top:Int) Q[k] x cc→BdE L N room R (i:Int) (j:Int) 132 (k:Int) (if cc=14 then 14 else 0)):=fun x cc h0 hx=>HBE.out _ _ _ (.inl ⟨k,cc,⟨h0,l,hlt,x,U.out.1,U.out.2,hx⟩,rfl,rfl,rfl⟩)
   have CL:=rleads_any (yc:=yc) rdR j hj hy hym
   have HN:Hid (∀ x,PtR L N (top:Int) Q[k] x 0→Upk L N top Q (k+1) (l ++ [x])):=fun x hx=>U.out.snoc hlt hx
   have HP:Hid (∀ x cc,PtR L N (top:Int) (Q[k].1,Q[k].2) x cc→PtR L N (top:Int) Q[k] x cc):=fun x cc q=>q
   clear hc paR rlR rdR hy U
   obtain ⟨s,hs⟩:∃ s,Q[k].1=s:=⟨_,rfl⟩
   obtain ⟨pt,hpt⟩:∃ pt,Q[k].2=pt:=⟨_,rfl⟩
   rw [hs] at c0
   rw [hpt] at c1 CL hym
   rw [hs,hpt] at HP
   unfold maxLen at hym
   clear hs hpt
   by_cases ha:(L.length:Int)≤s
   ·have FF:Hid (BdE L N room R (i:Int) (j:Int) 132 (k:Int) 14):=HB.out (true,s,0,0) 14 (by decide) (HP.out _ _ (.inr (.inl ⟨ha,rfl,rfl⟩)))
    clear HB HN HP CL
    go_wp2_with fail
    exact bodyPost_ret (v:=.tuple #[.int .i64 0,fltV 132 (k:Int) 14]) (by simp [results,Tryz.results17,go_sem,b0,b1,b2,b3,b4,b5,fltV]) rfl ⟨132,(k:Int),14,rfl,FF.out,KF.out _ _ _ _ _ _ _ KR.out⟩
   ·by_cases hb:s < -1
    ·have FF:Hid (BdE L N room R (i:Int) (j:Int) 132 (k:Int) 0):=HB.out (false,0,0,0) 1 (by decide) (HP.out _ _ (.inr (.inr (.inl ⟨hb,rfl,rfl⟩))))
     clear HB HN HP CL
     go_wp2_with fail
     exact bodyPost_ret (v:=.tuple #[.int .i64 0,fltV 132 (k:Int) 0]) (by simp [results,Tryz.results17,go_sem,b0,b1,b2,b3,b4,b5,fltV]) rfl ⟨132,(k:Int),0,rfl,FF.out,KF.out _ _ _ _ _ _ _ KR.out⟩
    ·by_cases hm1:s = -1
     ·subst hm1
      go_upto_region 12 with fail
      go_cut [80] from 56 to 79 (fun s80 w1=>∃ y:Int,s80=.bool (decide (y<0))∧Hid (LdR N (top:Int) pt y)∧Hid (Same0 W0 w1∧Same0 wr w1))
      case first=>
       go_wp2_with (first | (go_at_call 45;refine CL.mono ?_;rintro e w1 ⟨top', y,rfl,hr1,hl1,k1⟩;obtain rfl:=HRE.out.uniq hr1))
       go_meet
       case rel=>exact ⟨y,rfl,hl1,KR.out.trans' k1,k1⟩
      case rest=>
      obtain ⟨y,rfl,HL,K1⟩:=hcut
      have c0' := (K1.out.2.cell (p:=⟨tb,toff+k * 2,none⟩) htb (fun f=>f)).trans c0
      have hyr:=LdR.range (.inr ⟨by omega,by have:=HRE.out.lt.2;omega⟩) HL.out
      clear c0 c1 CL b0 b1 b2 b3 b4 b5 g0 g1 g2 g3 g4 g5
      obtain ⟨⟨b0,b1,b2,b3,b4,b5⟩,g0,g1,g2,g3,g4,g5⟩:=boxF6 (HZ.out _ K1.out.1)
      by_cases hy0:y<0
      ·obtain rfl:y = -1:=by omega
       have FF:Hid (BdE L N room R (i:Int) (j:Int) 132 (k:Int) 0):=HB.out (false,0,0,0) 112 (by decide) (HP.out _ _ (.inr (.inr (.inr (.inl ⟨rfl,HL.out,rfl,rfl⟩)))))
       clear HB HN HP hyr
       go_wp2_with fail
       exact bodyPost_ret (v:=.tuple #[.int .i64 0,fltV 132 (k:Int) 0]) (by simp [results,Tryz.results17,go_sem,b0,b1,b2,b3,b4,b5,fltV]) rfl ⟨132,(k:Int),0,rfl,FF.out,KF.out _ _ _ _ _ _ _ K1.out.1⟩
      ·have UU:Hid (Upk L N top Q (k+1) (l ++ [(false,0,0,y)])):=HN.out _ (HP.out _ _ (.inr (.inr (.inr (.inr ⟨rfl,y,HL.out,by omega,rfl,rfl⟩)))))
       have EN:Hid (newN (l ++ [((false,0,0,y):Tg)])=newN l):=by show _=_;rw [newN_snoc];simp
       have K2:Hid (Same0 W0 _):=K1.out.1
       clear HB HN HP hyr
       go_wp2_with fail
       refine ⟨⟨k+1,l ++ [(false,0,0,y)],by omega,by go_num,by rw [EN.out],by rw [EN.out];omega,UU,K2⟩,by simp [intOf];omega⟩
     ·have hs0:0≤s:=by omega
      have UU:Hid (Upk L N top Q (k+1) (l ++ [tgT L s])):=HN.out _ (HP.out _ _ (.inl ⟨hs0,by omega,rfl,rfl⟩))
      have EN:Hid (newN (l ++ [tgT L s])=newN l+1):=by show _=_;rw [newN_snoc];simp [tgT]
      have hs1:¬ (s<0):=by omega
      have hs2:(s == -1)=false:=by simp;omega
      have hs3:s<(L.length:Int):=by omega
      clear HB HN HP CL
      go_wp2_with fail
      refine ⟨⟨k+1,l ++ [tgT L s],by omega,by go_num,by first | (rw [EN.out];go_num) | (rw [EN.out];congr 1),by rw [EN.out];omega,UU,KR⟩,by simp [intOf];omega⟩
  ·obtain rfl:k=Q.length:=by omega
   have AP:Hid (AllP L N (top:Int) Q l):=U.out
   have CE:=end13_any (gc:=gc) rlR paR hql (fun x hx=>by
    obtain ⟨q,hq,rfl⟩:=List.mem_iff_getElem.1 hx
    exact (U.out.2 q hq (by rw [U.out.1];exact hq)).ar.2) 0 (Nat.zero_le _)
   have hon:=one_need 1 AP.out.as
   have ej1:oneT 1 l=true→endJ L (syl Q) 0=(Q.length:Int):=fun q=>by
    have:=end_need.2 (hon.1 q)
    simp [endJ,this,syl_len]
   have ej2:oneT 1 l=false→endJ L (syl Q) 0≠(Q.length:Int):=fun q e=>by
    have e2:endO L (syl Q) 0=some (syl Q).length:=by
     unfold endJ at e
     split at e
     ·rename_i z hz
      rw [hz,syl_len];congr 1;omega
     ·omega
    rw [hon.2 (end_need.1 e2)] at q;cases q
   have KRR:Hid (Same0 W0 wr):=KR
   have hQ8:(Q.length:Int)≤4398046511104:=by omega
   clear paR rlR rdR U hon KR b0 b1 b2 b3 b4 b5 g0 g1 g2 g3 g4 g5
   cases hone:oneT 1 l with
   | false=>
    have hej:=ej2 hone
    have FF:Hid (BdE L N room R (i:Int) (j:Int) 130 0 0):=HBE.out _ _ _ (.inr ⟨l,AP.out,.inl ⟨hone,rfl,rfl,rfl⟩⟩)
    have hej' : ((endJ L (syl Q) 0) == (Q.length:Int))=false:=by simpa using hej
    have HJ:Hid (endJ L (syl Q) 0≠(Q.length:Int)):=hej
    clear ej1 ej2 hone
    generalize endJ L (syl Q) 0=ej at *
    go_upto_region 17 with (first | (go_at_call 46;refine CE.mono ?_;rintro e w1 ⟨rfl,k1⟩))
    have K1:Hid (Same0 W0 w1):=KRR.out.trans' k1
    obtain ⟨⟨b0,b1,b2,b3,b4,b5⟩,g0,g1,g2,g3,g4,g5⟩:=boxF6 (HZ.out _ K1.out)
    clear CE k1
    go_wp2_with fail
    exact bodyPost_ret (v:=.tuple #[.int .i64 0,fltV 130 0 0]) (by simp [results,Tryz.results17,go_sem,b0,b1,b2,b3,b4,b5,fltV]) rfl ⟨130,0,0,rfl,FF.out,KF.out _ _ _ _ _ _ _ K1.out⟩
   | true=>
    have hej:=ej1 hone
    rw [hej] at CE
    have hfit:¬ N.length+newN l≤room:=fun q=>HBY.out l AP.out hone q
    have FF:Hid (BdE L N room R (i:Int) (j:Int) 131 0 111):=HBE.out _ _ _ (.inr ⟨l,AP.out,.inr ⟨hone,hfit,rfl,rfl,rfl⟩⟩)
    have i3:(room:Int)-(N.length:Int)<(newN l:Int):=by omega
    clear ej1 ej2 hone hej hfit
    generalize newN l=nl at *
    go_upto_region 18 with (first | (go_at_call 46;refine CE.mono ?_;rintro e w1 ⟨rfl,k1⟩))
    have K1:Hid (Same0 W0 w1):=KRR.out.trans' k1
    obtain ⟨⟨b0,b1,b2,b3,b4,b5⟩,g0,g1,g2,g3,g4,g5⟩:=boxF6 (HZ.out _ K1.out)
    have r0:=HRM.out w1 K1.out
    have r1:=(HRD.out w1 K1.out).1.c1
    have KQ:Hid (∀ m,Same0 W0 (w1.drewN m)):=fun m=>K1.out.trans' ((Kept.refl _ _).drewN m)
    clear CE k1
    go_quiet (fail)
    go_wp2_with fail
    exact bodyPost_ret (v:=.tuple #[.int .i64 0,fltV 131 0 111]) (by simp [results,Tryz.results17,go_sem,b0,b1,b2,b3,b4,b5,fltV]) rfl ⟨131,0,111,rfl,FF.out,KF.out _ _ _ _ _ _ _ (KQ.out nq)⟩
structure RfI (w wr:World) (h g room:Nat) (v:Value) (l:List Nd) (k:Nat):Prop where
 box:wr.heap[h]? = some (.cells #[.slice (some ⟨g,0,none⟩) room room,v] 119 (0,0))
 blk:∃ cs,wr.heap[g]? = some (.cells cs 76 (0,0))∧cs.size=room * 5
 each:∀ i (hi:i<l.length),i<k→NdC (fun b=>w.heap.size≤b) wr g (i * 5) l[i]
 kp:Kept (fun b=>b=g) w wr
theorem RfI.cells {w wr:World} {h g room k:Nat} {v:Value} {l:List Nd} (p:RfI w wr h g room v l k):wr.cell? ⟨h,0,none⟩=some (.slice (some ⟨g,0,none⟩) room room):=cellAt p.box 0
theorem RfI.same {w wr w' : World} {h g room k:Nat} {v:Value} {l:List Nd} (p:RfI w wr h g room v l k) (hk:Same0 wr w'):RfI w w' h g room v l k:=by
 obtain ⟨cs,h1,h2⟩:=p.blk
 exact ⟨hk.at0 p.box,⟨cs,hk.at0 h1,h2⟩,fun i hi hik=>(p.each i hi hik).kept (lt_of_at h1) hk (fun f=>f) (fun _ _ f=>f.elim),p.kp.trans hk (fun _ _ f=>f.elim)⟩
theorem RfI.there {w wr:World} {h g room k:Nat} {v:Value} {l:List Nd} (p:RfI w wr h g room v l k) {i:Nat} (hi:i<room):(∃ u0 u1 u2 u3 u4,wr.cell? ⟨g,i * 5,none⟩=some u0∧wr.cell? ⟨g,i * 5+1,none⟩=some u1∧wr.cell? ⟨g,i * 5+2,none⟩=some u2∧wr.cell? ⟨g,i * 5+3,none⟩=some u3∧wr.cell? ⟨g,i * 5+4,none⟩=some u4)∧∀ o,wr.frozen? ⟨g,o,none⟩=false:=by
 obtain ⟨cs,h1,h2⟩:=p.blk
 have t:∀ o,o<cs.size→wr.cell? ⟨g,o,none⟩=some cs[o]! := fun o ho=>by rw [cellAt h1];simp [ho]
 exact ⟨⟨_,_,_,_,_,t _ (by omega),t _ (by omega),t _ (by omega),t _ (by omega),t _ (by omega)⟩,fun o=>frozenAt h1 o⟩
theorem RfI.put {w wr w3:World} {h g room k:Nat} {v:Value} {l:List Nd} (p:RfI w wr h g room v l k) (hne:h≠g) (hk:Same0 wr w3) (hl:k<l.length) (hr:k<room) {bo:Option Addr} {bc:Nat} (ha:ArgT w3 bo l[k].2.1 bc) (hb:∀ a,bo=some a→w.heap.size≤a.block) :
  RfI w (put5 w3 g (k * 5) (.int .i64 l[k].1) (.slice bo l[k].2.1.length bc) (.int .i64 l[k].2.2.1) (.bool l[k].2.2.2.1) (.int .i64 l[k].2.2.2.2)) h g room v l (k+1):=by
 have p3:=p.same hk
 have hkl:(l.take k).length=k:=by simp;omega
 obtain ⟨q1,q2,q3⟩:=put5_nodes (B:=fun b=>w.heap.size≤b) (B' := fun b=>w.heap.size≤b) (l:=l.take k) (i:=k) (x:=l[k]) (ao:=bo) (ac:=bc) p3.blk (fun i hi=>by
  have hi' : i<k:=by omega
  have:=p3.each i (by omega) hi'
  simpa using this) hr ha hb (fun _ e=>e)
 have K:=put5_kept w3 g (k * 5) (.int .i64 l[k].1) (.slice bo l[k].2.1.length bc) (.int .i64 l[k].2.2.1) (.bool l[k].2.2.2.1) (.int .i64 l[k].2.2.2.2)
 refine ⟨K.at p3.box hne,q2,fun i hi hik=>?_,p3.kp.trans K (fun _ _ e=>e)⟩
 by_cases e:i=k
 ·subst e;exact q1
 ·have:=q3 i (by omega) e
  simpa using this
theorem setCells_kept (g:Nat):∀ (vs:List Value) (o:Nat) (w:World),Kept (fun k=>k=g) w (w.setCells g o vs)∧∀ cs t fr,w.heap[g]? = some (.cells cs t fr)→∃ cs', (w.setCells g o vs).heap[g]? = some (.cells cs' t fr)∧cs'.size=cs.size
 | [],o,w=>⟨Kept.refl _ _,fun cs t fr h=>⟨cs,h,rfl⟩⟩
 | v :: r,o,w=>by
  obtain ⟨h1,h2⟩:=setCells_kept g r (o+1) (w.setCell ⟨g,o,none⟩ v)
  have k:Kept (fun k=>k=g) w (w.setCell ⟨g,o,none⟩ v):=Kept.setCell (S:=fun k=>k=g) (Kept.refl _ _) (p:=⟨g,o,none⟩) (fun _=>rfl) v
  refine ⟨k.trans h1 (fun _ _ e=>e),fun cs t fr h=>?_⟩
  obtain ⟨cs', q1,q2⟩:=h2 _ t fr (setAt h o v)
  exact ⟨cs', q1,by rw [q2];simp⟩
theorem RfI.cleared {w wr:World} {h g room:Nat} {v:Value} {l:List Nd} (p:RfI w wr h g room v l l.length) (hne:h≠g) (vs:List Value):RfI w (wr.setCells g (l.length * 5) vs) h g room v l l.length:=by
 obtain ⟨cs,h1,h2⟩:=p.blk
 obtain ⟨k,q⟩:=setCells_kept g vs (l.length * 5) wr
 obtain ⟨cs', q1,q2⟩:=q cs _ _ h1
 have gi:∀ j,j=g→NotI wr j:=fun j e cur hc=>by rw [e,h1] at hc;cases hc
 refine ⟨k.at p.box hne,⟨cs', q1,by rw [q2,h2]⟩,fun i hi hik=>?_,p.kp.trans k (fun _ _ e=>e)⟩
 obtain ⟨ao,ac,n0,n1,n2,n3,n4,n5,n6⟩:=p.each i hi hik
 have t:∀ o,o<l.length * 5→(wr.setCells g (l.length * 5) vs).cell? ⟨g,o,none⟩=wr.cell? ⟨g,o,none⟩:=fun o ho=>World.cell?_setCells_out g vs _ _ _ (fun _ _=>.inl ho)
 exact ⟨ao,ac,(t _ (by omega)).trans n0,(t _ (by omega)).trans n1,(t _ (by omega)).trans n2,(t _ (by omega)).trans n3,(t _ (by omega)).trans n4,n5.kept k gi,n6⟩
theorem RfI.done {w wr:World} {h g room:Nat} {v:Value} {l:List Nd} (p:RfI w wr h g room v l l.length) (hne:h≠g) (h1:1≤room) (h2:room≤4000) (hl:l.length≤room) (hm:∀ x∈l,mayB l.length x=true) (ha:Ac l) :
  HpB (fun b=>w.heap.size≤b) (wr.setCell ⟨h,1,none⟩ (.int .i64 (l.length:Int))) h g room l∧Kept (fun k=>k=h∨k=g) w (wr.setCell ⟨h,1,none⟩ (.int .i64 (l.length:Int))):=by
 obtain ⟨cs,q1,q2⟩:=p.blk
 have k:Kept (fun k=>k=h) wr (wr.setCell ⟨h,1,none⟩ (.int .i64 (l.length:Int))):=Kept.setCell (S:=fun k=>k=h) (Kept.refl _ _) (p:=⟨h,1,none⟩) (fun _=>rfl) _
 have hi:∀ j,j=h→NotI wr j:=fun j e cur hc=>by rw [e,p.box] at hc;cases hc
 refine ⟨⟨?_,⟨cs,k.at q1 (fun e=>hne e.symm),q2⟩,h1,h2,hl,fun i hi' => (p.each i hi' hi').kept (lt_of_at q1) k (fun e=>hne e.symm) (fun j _ e=>hi j e),hm,ha⟩,?_⟩
 ·have:=setAt p.box 1 (.int .i64 (l.length:Int))
  simpa using this
 ·exact (p.kp.mono (fun _ _ e=>.inr e)).trans k (fun _ _ e=>.inl e)
theorem zero_one (n:Nat):∀ v∈(Builtin.zeroCells #[Value.int .i64 0,.slice none 0 0,.int .i64 0,.bool false,.int .i64 0] n).toList,v.oneCell' = true:=by
 intro v hv
 unfold Builtin.zeroCells at hv
 simp at hv
 obtain ⟨i,hi,rfl⟩:=hv
 have:i % 5<5:=Nat.mod_lt _ (by decide)
 match q:i % 5,this with
 | 0,_=>rfl
 | 1,_=>rfl
 | 2,_=>rfl
 | 3,_=>rfl
 | 4,_=>rfl
theorem run_clear_nodes (w:World) (ty:TypeId) (g o m c:Nat) (hm:0<m) (hc:∀ j,j<m * 5→(w.cell? ⟨g,o+j,none⟩).isSome=true) (hf:∀ j,j<m * 5→w.frozen? ⟨g,o+j,none⟩=false) :
  (Builtin.clear_ #[23] ty #[.slice (some ⟨g,o,none⟩) m c]).run Tryz.prog w=.ok (.tuple #[]) (w.setCells g o (Builtin.zeroCells #[Value.int .i64 0,.slice none 0 0,.int .i64 0,.bool false,.int .i64 0] m).toList):=by
 have hlen:(Builtin.zeroCells #[Value.int .i64 0,.slice none 0 0,.int .i64 0,.bool false,.int .i64 0] m).toList.length=m * 5:=by simp [Builtin.zeroCells]
 have hst:=run_storeCells_cells (P:=Tryz.prog) g o (Builtin.zeroCells #[Value.int .i64 0,.slice none 0 0,.int .i64 0,.bool false,.int .i64 0] m).toList 0 w (by rw [hlen];simpa using hc) (by rw [hlen];simpa using hf) (zero_one m)
 simp only [Nat.add_zero] at hst
 obtain ⟨k,rfl⟩:∃ k,m=k+1:=⟨m-1,by omega⟩
 have hcl:(Value.agg #[.int .i64 0,.slice none 0 0,.int .i64 0,.bool false,.int .i64 0]).cells = #[Value.int .i64 0,.slice none 0 0,.int .i64 0,.bool false,.int .i64 0]:=rfl
 simp [Builtin.clear_,run_underlying Tryz.underlying23,hcl,hst]
set_option maxHeartbeats 1000000 in
theorem refill_yes {B:Nat→Prop} {w:World} {h g room:Nat} {l:List Nd} (p:HpB B w h g room l) {ao:Option Addr} {ac:Nat} {l' : List Nd} (hs:NsV (fun b=>b≠g) w ao l') (hE:RfE room l' 0) :
  Calls Tryz.prog 28 #[.pointer (some ⟨h,0,none⟩),.slice ao l'.length ac] w fun e w' => e=.returned (.int .i64 0)∧HpB (fun b=>w.heap.size≤b) w' h g room l' ∧ Kept (fun k=>k=h∨k=g) w w' := by
 obtain ⟨a,b,c⟩:l'.length≤room∧l'.all (mayB l'.length)=true∧Ac l' := by
  rcases hE with ⟨_,e⟩ | ⟨_,_,e⟩ | ⟨_,_,_,e⟩ | ⟨a,b,c,_⟩
  ·cases e
  ·cases e
  ·cases e
  ·exact ⟨a,b,c⟩
 obtain ⟨c0,c1⟩:=p.cells
 have hr1:=p.rm1
 have hr2:=p.rm2
 have hne:=p.ne
 have j1:¬ (room:Int)<(l'.length:Int):=by omega
 have CS:=shaped_any (ac:=ac) hs.weak (by omega)
 obtain ⟨f1,f2,f3⟩:=few_of_may b
 have CR:Hid (∀ ww,Same0 w ww→Calls Tryz.prog 55 #[.slice ao l'.length ac] ww fun e w' => RingQ l' ww e w'):=fun ww hk=>ringed_any (hs.same hk).weak f2 f3 (by omega)
 have HAC:Hid (Ac l'):=c
 have HF1:Hid (∀ x∈l', mayB l'.length x=true):=f1
 have HF3:Hid (∀ x∈l', x.2.1.length≤6):=f3
 have HI0:Hid (∀ ww,Same0 w ww→RfI w ww h g room (.int .i64 (l.length:Int)) l' 0):=fun ww hk=>by
  obtain ⟨cs,h1,h2⟩:=p.blk
  exact ⟨hk.at0 p.box,⟨cs,hk.at0 h1,h2⟩,fun i _ hi=>absurd hi (Nat.not_lt_zero _),hk.mono (fun _ _ f=>f.elim)⟩
 have HGI:Hid (∀ k,k=g→NotI w k):=fun k e cur hc=>by
  obtain ⟨cs,h1,h2⟩:=p.blk
  rw [e,h1] at hc;cases hc
 have HNS:Hid (∀ ww,Kept (fun k=>k=g) w ww→∀ j (hj:j<l'.length),∃ nb noff xo xc,ao=some ⟨nb,noff,none⟩∧ww.cell? ⟨nb,noff+j * 5,none⟩=some (.int .i64 l'[j].1)∧ww.cell? ⟨nb,noff+j * 5+1,none⟩=some (.slice xo l'[j].2.1.length xc)∧ww.cell? ⟨nb,noff+j * 5+2,none⟩=some (.int .i64 l'[j].2.2.1)∧ww.cell? ⟨nb,noff+j * 5+3,none⟩=some (.bool l'[j].2.2.2.1)∧ww.cell? ⟨nb,noff+j * 5+4,none⟩=some (.int .i64 l'[j].2.2.2.2)∧Arg ww xo l'[j].2.1 xc):=fun ww hk j hj=>by
  rcases hs.kept hk (fun _ q t=>q t) with e | ⟨nb,noff,e, -, -,hn⟩
  ·rw [e] at hj;simp at hj
  ·obtain ⟨xo,xc,n0,n1,n2,n3,n4,n5, -⟩:=hn j hj
   exact ⟨nb,noff,xo,xc,e,n0,n1,n2,n3,n4,n5⟩
 rw [b] at CS
 have l0:(0:Int)≤(l'.length:Int):=by omega
 have l1:(l'.length:Int)≤(room:Int):=by omega
 clear hs b f1 f2 f3 c hE
 go_enter Tryz.func28,Tryz.ntmps28
 go_upto_region 7 with (first | (go_at_call 54;refine CS.mono ?_;rintro e w1 ⟨rfl,k1⟩))
 have CR1:=CR.out w1 k1
 clear CR CS
 go_upto_region 10 with (first | (go_at_call 55;refine CR1.mono ?_;rintro e w2 ⟨b,rfl,hb,k2⟩;obtain rfl:b=false:=(by cases b;rfl;exact absurd HAC.out (hb.1 rfl))))
 have HI2:Hid (RfI w w2 h g room (.int .i64 (l.length:Int)) l' 0):=HI0.out w2 (k1.trans' k2)
 have hw2:=(k1.trans' k2).size
 clear CR1 hb k1 k2 c0 c1 HI0
 go_loopw [28] (fun i wr=>∃ k:Nat,i=.int .i64 (k:Int)∧k≤l'.length∧Hid (RfI w wr h g room (.int .i64 (l.length:Int)) l' k)) (fun i _=>l'.length-(intOf i).toNat)
 case atStart=>exact ⟨0,rfl,Nat.zero_le _,HI2⟩
 case round=>
  clear HI2
  obtain ⟨k,rfl,hk,HI⟩:=hrel
  by_cases hlt:k<l'.length
  ·have j2:(k:Int)<(l'.length:Int):=by omega
   have j3:(0:Int)≤(k:Int):=by omega
   have j4:(k:Int)<(room:Int):=by omega
   have hkr:k<room:=by omega
   obtain ⟨nb,noff,xo,xc,rfl,n0,n1,n2,n3,n4,n5⟩:=HNS.out wr HI.out.kp k hlt
   obtain ⟨W3,hW3⟩:∃ W3,W3=wr.alloc (.cells #[.int .i64 l'[k].1,.slice xo l'[k].2.1.length xc,.int .i64 l'[k].2.2.1,.bool l'[k].2.2.2.1,.int .i64 l'[k].2.2.2.2] 76):=⟨_,rfl⟩
   have kb:Same0 wr W3:=by rw [hW3];exact (Kept.refl _ _).alloc _
   have kd:Same0 wr W3.drew:=kb.drew
   obtain ⟨x0,x1,x2,x3,x4⟩:=box_node' wr l'[k] xo xc (show Same0 _ W3.drew by rw [hW3];exact (Kept.refl _ _).drew)
   have c0:=(HI.out.same kd).cells
   have h6:=HF3.out _ (List.getElem_mem hlt)
   have CC:=copied_any (x:=l'[k]) (ac:=xc) (n5.onto kd) (by omega)
   have HP:Hid (∀ w3 bo bc,Same0 wr w3→ArgT w3 bo l'[k].2.1 bc→(∀ a,bo=some a→w.heap.size≤a.block)→RfI w (put5 w3 g (k * 5) (.int .i64 l'[k].1) (.slice bo l'[k].2.1.length bc) (.int .i64 l'[k].2.2.1) (.bool l'[k].2.2.2.1) (.int .i64 l'[k].2.2.2.2)) h g room (.int .i64 (l.length:Int)) l' (k+1)):=fun w3 bo bc hk3 ha hb=>HI.out.put hne hk3 hlt hkr ha hb
   have HSZ:Hid (w.heap.size≤W3.drew.heap.size):=Nat.le_trans HI.out.kp.size kd.size
   have HT:Hid (∀ w3,Same0 wr w3→(∃ u0 u1 u2 u3 u4,w3.cell? ⟨g,k * 5,none⟩=some u0∧w3.cell? ⟨g,k * 5+1,none⟩=some u1∧w3.cell? ⟨g,k * 5+2,none⟩=some u2∧w3.cell? ⟨g,k * 5+3,none⟩=some u3∧w3.cell? ⟨g,k * 5+4,none⟩=some u4)∧(∀ o,w3.frozen? ⟨g,o,none⟩=false)∧w3.cell? ⟨h,0,none⟩=some (.slice (some ⟨g,0,none⟩) room room)):=fun w3 hk3=>⟨((HI.out.same hk3).there hkr).1,((HI.out.same hk3).there hkr).2,(HI.out.same hk3).cells⟩
   clear n5 kb
   go_upto_region 12 with fail
   rw [← hW3]
   clear hW3 n0 n1 n2 n3 n4
   go_region_with (first | (go_at_call 49;refine CC.mono ?_;rintro e w5 ⟨bo,bc,rfl,ha,hbb,hk5⟩;have K5:=kd.trans' hk5;obtain ⟨⟨u0,u1,u2,u3,u4,t0,t1,t2,t3,t4⟩,ff,cc1⟩:=HT.out w5 K5;have f0:=ff (k * 5);have f1:=ff (k * 5+1);have f2:=ff (k * 5+2);have f3:=ff (k * 5+3);have f4:=ff (k * 5+4);clear ff))
   all_goals
    have HN:Hid (RfI w (put5 w5 g (k * 5) (.int .i64 l'[k].1) (.slice bo l'[k].2.1.length bc) (.int .i64 l'[k].2.2.1) (.bool l'[k].2.2.2.1) (.int .i64 l'[k].2.2.2.2)) h g room (.int .i64 (l.length:Int)) l' (k+1)):=HP.out w5 bo bc K5 ha (fun a e=>Nat.le_trans HSZ.out (hbb a e))
    clear t0 t1 t2 t3 t4 f0 f1 f2 f3 f4 cc1 x0 x1 x2 x3 x4 c0 CC ha hbb
    go_wp2
    go_roundw
    case rel=>first | exact ⟨k+1,by go_num,by omega,HN⟩ | ((repeat apply Exists.intro);exact ⟨⟨k+1,by go_num,by omega,HN⟩,rfl⟩)
    case measure=>simp [intOf];omega
  ·have hkl:k=l'.length:=by omega
   subst hkl
   have c0:=HI.out.cells
   go_upto_region 14 with fail
   by_cases hfull:l'.length<room
   ·have l2:(l'.length:Int)<(room:Int):=by omega
    obtain ⟨Wz,hWz⟩:∃ Wz,Wz=wr.setCells g (l'.length * 5) (Builtin.zeroCells #[Value.int .i64 0,.slice none 0 0,.int .i64 0,.bool false,.int .i64 0] (room-l'.length)).toList:=⟨_,rfl⟩
    have HCL:∀ ty,(Builtin.clear_ #[23] ty #[.slice (some ⟨g,l'.length * 5,none⟩) (room-l'.length) (room-l'.length)]).run Tryz.prog wr=.ok (.tuple #[]) Wz:=by
     intro ty
     obtain ⟨cs,q1,q2⟩:=HI.out.blk
     rw [hWz]
     refine run_clear_nodes wr ty g _ _ _ (by omega) (fun j hj=>?_) (fun j _=>frozenAt q1 _)
     rw [cellAt q1]
     simp
     omega
    have HIZ:Hid (RfI w Wz h g room (.int .i64 (l.length:Int)) l' l'.length):=by rw [hWz];exact HI.out.cleared hne _
    have z1:Wz.cell? ⟨h,1,none⟩=some (.int .i64 (l.length:Int)):=cellAt HIZ.out.box 1
    have z2:Wz.frozen? ⟨h,1,none⟩=false:=frozenAt HIZ.out.box 1
    have FF:Hid (HpB (fun b=>w.heap.size≤b) (Wz.setCell ⟨h,1,none⟩ (.int .i64 (l'.length:Int))) h g room l' ∧ Kept (fun k=>k=h∨k=g) w (Wz.setCell ⟨h,1,none⟩ (.int .i64 (l'.length:Int)))):=HIZ.out.done hne hr1 hr2 a HF1.out HAC.out
    clear hWz HIZ HI HNS p
    go_wp2
    go_ret
    exact ⟨rfl,FF.out.1,FF.out.2⟩
   ·have hfl:l'.length=room:=by omega
    have z1:wr.cell? ⟨h,1,none⟩=some (.int .i64 (l.length:Int)):=cellAt HI.out.box 1
    have z2:wr.frozen? ⟨h,1,none⟩=false:=frozenAt HI.out.box 1
    have FF:Hid (HpB (fun b=>w.heap.size≤b) (wr.setCell ⟨h,1,none⟩ (.int .i64 (l'.length:Int))) h g room l' ∧ Kept (fun k=>k=h∨k=g) w (wr.setCell ⟨h,1,none⟩ (.int .i64 (l'.length:Int)))):=HI.out.done hne hr1 hr2 a HF1.out HAC.out
    rw [hfl] at FF ⊢
    have HCL:∀ ty,(Builtin.clear_ #[23] ty #[.slice (some ⟨g,0,none⟩) 0 0]).run Tryz.prog wr=.ok (.tuple #[]) wr:=fun ty=>by simp [Builtin.clear_,run_underlying Tryz.underlying23]
    clear HI HNS p hfl hfull hlt
    go_wp2
    go_ret
    exact ⟨rfl,FF.out.1,FF.out.2⟩
theorem grfe_ex (room:Nat) (l:List Nd):∃ E,RfE room l E:=by
 by_cases h1:room<l.length
 ·exact ⟨_,.inl ⟨h1,rfl⟩⟩
 ·by_cases h2:l.all (mayB l.length)=true
  ·by_cases h3:Ac l
   ·exact ⟨_,.inr (.inr (.inr ⟨by omega,h2,h3,rfl⟩))⟩
   ·exact ⟨_,.inr (.inr (.inl ⟨by omega,h2,h3,rfl⟩))⟩
  ·exact ⟨_,.inr (.inl ⟨by omega,by rw [Bool.not_eq_true] at h2;exact h2,rfl⟩)⟩
theorem grfe_range {room:Nat} {l:List Nd} {E:Int} (h:RfE room l E):0≤E∧E≤120:=by
 rcases h with ⟨_,rfl⟩ | ⟨_,_,rfl⟩ | ⟨_,_,_,rfl⟩ | ⟨_,_,_,rfl⟩ <;> omega
theorem RhB.monoG {B B' : Nat→Prop} {w:World} {r room:Nat} {v:Value} {l:List Nd} (p:RhB B w r room v l) (hB:∀ k,k<w.heap.size→B k→B' k):RhB B' w r room v l:=⟨p.box,p.row.mono hB,p.rm1,p.rm2,p.le,p.may,p.ac⟩
structure MgAt (w w' : World) (h g r:Nat) (v:Value) (l:List Nd):Prop where
 hp:HpB (fun b=>w.heap.size≤b) w' h g 4000 l
 rh:RhB (fun b=>w.heap.size≤b) w' r 4000 v l
 same:Same0 w w'
 lh:w.heap.size≤h
 lg:w.heap.size≤g
 lr:w.heap.size≤r
 lv:∀ k,v.ownBlock=some k→w.heap.size≤k∧k≠g∧k≠h∧k≠r
 nr:r≠h∧r≠g
structure MrAt (rm:Nat) (w w' : World) (h g r:Nat) (v:Value) (l:List Nd):Prop where
 hp:HpB (fun b=>w.heap.size≤b) w' h g rm l
 rh:RhB (fun b=>w.heap.size≤b) w' r rm v l
 same:Same0 w w'
 lh:w.heap.size≤h
 lg:w.heap.size≤g
 lr:w.heap.size≤r
 lv:∀ k,v.ownBlock=some k→w.heap.size≤k∧k≠g∧k≠h∧k≠r
 nr:r≠h∧r≠g
def MrQ (l:List Nd) (w:World) (e:Ending) (w' : World):Prop:=
 (e=.returned (.tuple #[.pointer none,.pointer none])∧Same0 w w')∨∃ (rm h g r:Nat) (v:Value),e=.returned (.tuple #[.pointer (some ⟨h,0,none⟩),.pointer (some ⟨r,0,none⟩)])∧MrAt rm w w' h g r v l
set_option maxHeartbeats 2000000 in
theorem made13r_yes (rm:Nat) (hr1:1≤rm) (hr2:rm≤4000) {w:World} {ao:Option Addr} {ac:Nat} {l:List Nd} (hs:NsW w ao l) (hsz:l.length≤maxLen) :
  Calls Tryz.prog 7 #[.int .i64 (rm:Int),.slice ao l.length ac] w fun e w' => MrQ l w e w' := by
 obtain ⟨E,hE⟩:=grfe_ex rm l
 have C1:=hnew_yes rm w hr1 hr2
 have HS:Hid (∀ ww,Same0 w ww→NsW ww ao l):=fun ww hk=>hs.same hk
 have HV:Hid (NsV (fun b=>b<w.heap.size) w ao l):=hs.below
 have HZ:Hid (l.length≤maxLen):=hsz
 have HE:Hid (RfE rm l E):=hE
 obtain ⟨e1,e2⟩:=grfe_range hE
 clear hs hsz hE
 by_cases h0:E=0
 ·subst h0
  go_enter Tryz.func7,Tryz.ntmps7
  go_upto_region 5 with (first | (go_at_call 19;refine C1.mono ?_;rintro e w1 ⟨h,g,rfl,p1,k1,lh,lg⟩;have C2:=rnew_yes rm w1 hr1 hr2) | (go_at_call 27;refine C2.mono ?_;rintro e w2 ⟨r,rfl,q2,k2,lr⟩))
  have p2:=p1.same k2
  have K2:=k1.trans' k2
  have hhl:=p1.ltH
  have hgl:=p1.ltG
  have C3:=refill_yes (ac:=ac) p2 ((HV.out.same K2).mono (fun b hb=>show b≠g by omega)) HE.out
  clear p1 C1
  go_upto_region 7 with (first | (go_at_call 28;refine C3.mono ?_;rintro e w3 ⟨rfl,p3,k3⟩;have K3:Same0 w w3:=K2.trans k3 (fun i hi e=>by omega);have C4:=rrefill_any (ac:=ac) (q2.kept k3 (fun e=>by omega) (fun k e=>by cases e) (fun k f=>f.elim)) (HS.out w3 K3) HZ.out HE.out) | (go_at_call 29;refine C4.mono ?_;rintro e w4 ⟨rfl,q4⟩))
  have FIN:MrQ l w (.returned (.tuple #[.pointer (some ⟨h,0,none⟩),.pointer (some ⟨r,0,none⟩)])) w4:=by
   rcases q4 with ⟨e,_⟩ | ⟨_,v,r4,k4,lv⟩
   ·exact absurd rfl e
   ·have hr2:=q2.lt
    have s2:=K2.size
    have s3:=k3.size
    refine .inr ⟨rm,h,g,r,v,rfl,(p3.kept k4 (by omega) (by omega) (fun k _ e cur hc=>?_)).mono (fun k _ _ hk=>by omega),RhB.monoG r4 (fun k _ hk=>by omega),K3.trans k4 (fun i hi e=>by have:=k1.size;omega),lh,lg,by have:=k1.size;omega,fun k e=>?_,by omega,by omega⟩
    ·subst e
     have:=k3.at q2.box (by omega)
     rw [this] at hc
     cases hc
    ·have:=lv k e
     have:=k1.size
     omega
  clear q4 C3 C4 HE HV HS q2 p2 p3
  go_wp2
  go_ret2
  exact FIN
 ·have HN:Hid (E≠0):=h0
  have b1:(E != 0)=true:=by simpa using h0
  have b2:(E == 0)=false:=by simpa using h0
  have b3:(E != E)=false:=by simp
  go_enter Tryz.func7,Tryz.ntmps7
  go_upto_region 5 with (first | (go_at_call 19;refine C1.mono ?_;rintro e w1 ⟨h,g,rfl,p1,k1,lh,lg⟩;have C2:=rnew_yes rm w1 hr1 hr2) | (go_at_call 27;refine C2.mono ?_;rintro e w2 ⟨r,rfl,q2,k2,lr⟩))
  have K2:=k1.trans' k2
  have C3:=refill_no (ac:=ac) (p1.same k2) (HS.out w2 K2) HZ.out HE.out HN.out
  clear p1 C1
  go_upto_region 7 with (first | (go_at_call 28;refine C3.mono ?_;rintro e w3 ⟨rfl,k3⟩;have K3:=K2.trans' k3;have C4:=rrefill_any (ac:=ac) (q2.same k3) (HS.out w3 K3) HZ.out HE.out) | (go_at_call 29;refine C4.mono ?_;rintro e w4 ⟨rfl,q4⟩))
  have FIN:MrQ l w (.returned (.tuple #[.pointer none,.pointer none])) w4:=by
   rcases q4 with ⟨_,e⟩ | ⟨e,_⟩
   ·exact .inl ⟨rfl,K3.trans' e⟩
   ·exact absurd e HN.out
  clear q4 C3 C4 HE HV HS q2
  go_wp2
  go_ret2
  exact FIN
theorem made13r_no (room:Int) (hr:room<1∨4000<room) (w:World) (ao:Option Addr) (al ac:Nat) (l:List Nd) :
  Calls Tryz.prog 7 #[.int .i64 room,.slice ao al ac] w fun e w' => MrQ l w e w' := by
 have C1:=hnew_no room w hr
 have C2:=rnew_no room w hr
 have FIN:MrQ l w (.returned (.tuple #[.pointer none,.pointer none])) w:=.inl ⟨rfl,Kept.refl _ _⟩
 clear hr
 go_enter Tryz.func7,Tryz.ntmps7
 go_wp2_with (first | (go_at_call 19;refine C1.mono ?_;rintro e w1 ⟨rfl,h1⟩;have h1:=h1.symm;subst h1) | (go_at_call 27;refine C2.mono ?_;rintro e w2 ⟨rfl,h2⟩;have h2:=h2.symm;subst h2))
 go_ret2
 exact FIN
theorem made13r_any (room:Int) {w:World} {ao:Option Addr} {ac:Nat} {l:List Nd} (hs:NsW w ao l) (hsz:l.length≤maxLen) :
  Calls Tryz.prog 7 #[.int .i64 room,.slice ao l.length ac] w fun e w' => ∃ v1 v2,e=.returned (.tuple #[v1,v2])∧MrQ l w (.returned (.tuple #[v1,v2])) w' := by
 have H:Calls Tryz.prog 7 #[.int .i64 room,.slice ao l.length ac] w fun e w' => MrQ l w e w' := by
  by_cases hr:room<1∨4000<room
  ·exact made13r_no room hr w ao l.length ac l
  ·obtain ⟨rm,rfl⟩:∃ rm:Nat,room=(rm:Int):=⟨room.toNat,by omega⟩
   exact made13r_yes rm (by omega) (by omega) hs hsz
 exact H.mono (fun e w' hq=>by
  rcases hq with ⟨rfl,k⟩ | ⟨rm,h,g,r,v,rfl,q⟩
  ·exact ⟨_,_,rfl,.inl ⟨rfl,k⟩⟩
  ·exact ⟨_,_,rfl,.inr ⟨rm,h,g,r,v,rfl,q⟩⟩)
theorem iv_setG (xs:List Int) (k:Nat) (z:Int):iv (xs.set k z)=(iv xs).set k (.int .i64 z):=by
 unfold iv
 rw [List.map_set]
theorem ints_threeG (w:World) (z y x:Int):IntsAt (w.alloc (.cells #[.int .i64 z,.int .i64 y,.int .i64 x] 3)) (some ⟨w.heap.size,0,none⟩) [z,y,x]:=
 .inr ⟨w.heap.size,0,rfl,by simp,fun i hi=>by
  have hi' : i<3:=hi
  match i,hi' with
  | 0,_=>exact cellAt (heap_alloc_new w _) 0
  | 1,_=>exact cellAt (heap_alloc_new w _) 1
  | 2,_=>exact cellAt (heap_alloc_new w _) 2⟩
abbrev lentG (xs:List Int):List Int:=xs ++ [-77, -77, -77]
set_option maxHeartbeats 1000000 in
theorem lent13_any {w:World} {ao:Option Addr} {cap:Nat} {xs:List Int} (hx:Arg w ao xs cap) :
  Calls Tryz.prog 8 #[.slice ao xs.length cap] w fun e w' => ∃ g c,e=.returned (.slice (some ⟨g,0,none⟩) xs.length c)∧Row w.heap.size w' (.slice (some ⟨g,0,none⟩) (xs.length+3) c) (lentG xs)∧xs.length+3≤c∧Same0 w w' := by
 have k0:Same0 w (w.alloc (.cells #[] 3)):=(Kept.refl _ w).alloc _
 have r0:Row w.heap.size (w.alloc (.cells #[] 3)) (.slice (some ⟨w.heap.size,0,none⟩) 0 0) []:=row_empty w _ (Nat.le_refl _) rfl
 have cI:=hx.at'.same k0
 have hn:=hx.nil
 have hs:Hid (xs.length * 8≤140737488351232):=hx.size
 have z0:=k0.size
 have j0:(0:Int)≤(xs.length:Int):=by omega
 have j8:(xs.length:Int)≤17592186043904:=by have:=hs.out;omega
 clear hx
 go_enter Tryz.func8,Tryz.ntmps8
 go_upto_region 2 with (first | (at_builtin;refine wpList_more9 rfl _ _ 33 rfl Tryz.underlying33 w.heap.size [] _ rfl r0 xs _ _ _ rfl rfl cI hn z0 (by have:=hs.out;simp;omega) ?_;intro v1 w1 hr1 hk1))
 rw [List.nil_append] at hr1
 have k1:=k0.onto r0 hk1
 have k2:Same0 w (w1.alloc (.cells #[.int .i64 (-77),.int .i64 (-77),.int .i64 (-77)] 3)):=k1.alloc _
 have r2:Row w.heap.size (w1.alloc (.cells #[.int .i64 (-77),.int .i64 (-77),.int .i64 (-77)] 3)) v1 xs:=((Kept.refl (fun _=>False) w1).alloc _).row hr1 (fun _ _ f=>f)
 have z2:=k2.size
 have c3:=ints_threeG w1 (-77) (-77) (-77)
 clear cI hn z0 hk1 k0 r0 hr1 k1
 go_upto_region 3 with (first | (at_builtin;refine wpList_more9 rfl _ _ 33 rfl Tryz.underlying33 w.heap.size xs _ rfl r2 [-77, -77, -77] _ _ _ rfl rfl c3 (fun e=>by cases e) z2 (by have:=hs.out;simp;omega) ?_;intro v3 w3 hr3 hk3))
 have k3:=k2.onto r2 hk3
 obtain ⟨g,c,e,hle⟩:∃ g c,v3=.slice (some ⟨g,0,none⟩) (xs.length+3) c∧xs.length+3≤c:=by
  have hr:=hr3
  unfold Row at hr
  rcases hr.2 with ⟨e2,h0⟩ | ⟨g,cap,cur,e2,hb,hg,hle,_⟩
  ·simp at h0
  ·exact ⟨g,cap,by simpa using e2,by simpa using hle⟩
 subst e
 have j1:(xs.length:Int)≤(c:Int):=by omega
 have HF:Hid (Row w.heap.size w3 (.slice (some ⟨g,0,none⟩) (xs.length+3) c) (lentG xs)∧xs.length+3≤c∧Same0 w w3):=⟨hr3,hle,k3⟩
 clear hr3 k3 hk3 r2 k2 c3 z2
 go_wp2
 go_ret
 exact ⟨g,c,rfl,HF.out.1,HF.out.2.1,HF.out.2.2⟩
def HdG (base g n c:Nat) (xs:List Int) (w wr:World) (k:Nat):Prop:=(∃ L,Row base wr (.slice (some ⟨g,0,none⟩) (n+3) c) L∧L.length=n+3∧∀ j,k≤j→L[j]? = (lentG xs)[j]?)∧Kept (fun i=>i=g) w wr
theorem HdG.at {base g n c k:Nat} {xs:List Int} {w wr:World} (h:HdG base g n c xs w wr k) {z:Int} (hz:(lentG xs)[k]? = some z):wr.cell? ⟨g,k,none⟩=some (.int .i64 z)∧wr.frozen? ⟨g,k,none⟩=false:=by
 obtain ⟨⟨L,h1,h2,h3⟩,_⟩:=h
 have hL:=h3 k (Nat.le_refl _)
 rw [hz] at hL
 obtain ⟨hk,hv⟩:=List.getElem?_eq_some_iff.1 hL
 obtain ⟨ao,ac,e,hi,_,_⟩:=h1.ints
 simp only [Value.slice.injEq] at e
 obtain ⟨b,off,e1,_,hc⟩:=hi.get hk
 rw [← e.1] at e1
 simp only [Option.some.injEq,Addr.mk.injEq,and_true] at e1
 obtain ⟨rfl,rfl⟩:=e1
 rw [hv] at hc
 refine ⟨by simpa using hc,?_⟩
 unfold Row at h1
 rw [h2] at h1
 exact h1.frozenAt k
theorem HdG.put {base g n c k:Nat} {xs:List Int} {w wr:World} (h:HdG base g n c xs w wr k):HdG base g n c xs w (wr.setCell ⟨g,k,none⟩ (.int .i64 (-78))) (k+1):=by
 obtain ⟨⟨L,h1,h2,h3⟩,h4⟩:=h
 refine ⟨⟨L.set k (-78),?_,by simp [h2],fun j hj=>?_⟩,Kept.setCell (S:=fun i=>i=g) h4 (p:=⟨g,k,none⟩) (fun _=>rfl) _⟩
 ·unfold Row at h1 ⊢
  rw [iv_setG]
  rw [h2] at h1
  simpa [h2] using (h1.stored k (.int .i64 (-78))).1
 ·rw [List.getElem?_set_ne (by omega)];exact h3 j (by omega)
theorem HdG.same {base g n c k:Nat} {xs:List Int} {w wr wr' : World} (h:HdG base g n c xs w wr k) (hk:Same0 wr wr'):HdG base g n c xs w wr' k:=by
 obtain ⟨⟨L,h1,h2,h3⟩,h4⟩:=h
 exact ⟨⟨L,hk.row h1 (fun _ _ f=>f),h2,h3⟩,h4.trans hk (fun _ _ f=>f.elim)⟩
set_option maxHeartbeats 2000000 in
theorem held13_any {base:Nat} {w:World} {g c cap:Nat} {ao:Option Addr} {xs:List Int} (hr:Row base w (.slice (some ⟨g,0,none⟩) (xs.length+3) c) (lentG xs)) (hc:xs.length+3≤c) (hx:Arg w ao xs cap) (hne:xs≠[]→∀ a,ao=some a→a.block≠g) :
  Calls Tryz.prog 12 #[.slice (some ⟨g,0,none⟩) xs.length c,.slice ao xs.length cap] w fun e w' => e=.returned (.bool true)∧Kept (fun i=>i=g) w w' := by
 obtain ⟨n,hn⟩:∃ n,n=xs.length:=⟨_,rfl⟩
 have HNL:Hid (n=xs.length):=hn
 have hs:Hid (xs.length * 8≤140737488351232):=hx.size
 have H0:Hid (HdG base g n c xs w w 0):=⟨⟨lentG xs,by rw [hn];exact hr,by simp [hn],fun j _=>rfl⟩,Kept.refl _ _⟩
 have HXS:Hid (∀ wr,Kept (fun i=>i=g) w wr→∀ k (hk:k<xs.length),∃ b off,ao=some ⟨b,off,none⟩∧wr.cell? ⟨b,off+k,none⟩=some (.int .i64 xs[k])):=fun wr hk k hkl=>by
  have h0:xs≠[]:=fun e=>by rw [e] at hkl;simp at hkl
  obtain ⟨b,off,e,_,h3⟩:=(hx.at'.kept hk (fun a e q=>hne h0 a e q)).get hkl
  exact ⟨b,off,e,h3⟩
 rw [← hn] at hc ⊢
 have j1:(n:Int)+3≤(c:Int):=by omega
 have j2:(n:Int)≤17592186043904:=by have:=hs.out;have:=HNL.out;omega
 have j3:(0:Int)≤(n:Int)+3:=by omega
 clear hr hx hne hn
 go_enter Tryz.func12,Tryz.ntmps12
 go_upto_region 4 with fail
 go_loopw [6,7] (fun o i wr=>∃ k:Nat,o=.bool true∧i=.int .i64 (k:Int)∧k≤n+3∧Hid (HdG base g n c xs w wr k)) (fun _ i _=>n+3-(intOf i).toNat)
 case atStart=>exact ⟨0,rfl,rfl,Nat.zero_le _,H0⟩
 case round=>
  clear H0
  obtain ⟨k,rfl,rfl,hk,H⟩:=hrel
  by_cases hlt:k<n+3
  ·have i0:(0:Int)≤(k:Int):=by omega
   have i1:(k:Int)<(n:Int)+3:=by omega
   by_cases hkn:k<n
   ·have hkx:k<xs.length:=by rw [← HNL.out];exact hkn
    obtain ⟨q1,q2⟩:=H.out.at (z:=xs[k]) (by rw [List.getElem?_append_left hkx];exact List.getElem?_eq_getElem hkx)
    obtain ⟨b,off,e,q3⟩:=HXS.out wr H.out.2 k hkx
    subst e
    have i2:(k:Int)<(n:Int):=by omega
    have i4:decide (n≤k)=false:=by simp;omega
    have i5:decide (k<n)=true:=by simp;omega
    have HN:Hid (∀ m,Hid (HdG base g n c xs w ((wr.drewN m).setCell ⟨g,k,none⟩ (.int .i64 (-78))) (k+1))):=fun m=>(H.out.same ((Kept.refl _ _).drewN m)).put
    go_upto_region 6 with fail
    go_quiet (fail)
    go_wp2
    go_roundw
    case rel=>exact ⟨k+1,rfl,by go_num,by omega,HN.out _⟩
    case measure=>simp [intOf];omega
   ·have i2:¬ (k:Int)<(n:Int):=by omega
    have i4:decide (n≤k)=true:=by simp;omega
    have i5:decide (k<n)=false:=by simp;omega
    obtain ⟨q1,q2⟩:=H.out.at (z:=-77) (by
     rw [List.getElem?_append_right (by rw [← HNL.out];omega),← HNL.out]
     have:k-n<3:=by omega
     match k-n,this with
     | 0,_=>rfl
     | 1,_=>rfl
     | 2,_=>rfl)
    have HN:Hid (∀ m,Hid (HdG base g n c xs w ((wr.drewN m).setCell ⟨g,k,none⟩ (.int .i64 (-78))) (k+1))):=fun m=>(H.out.same ((Kept.refl _ _).drewN m)).put
    go_upto_region 6 with fail
    go_quiet (fail)
    go_wp2
    go_roundw
    case rel=>exact ⟨k+1,rfl,by go_num,by omega,HN.out _⟩
    case measure=>simp [intOf];omega
  ·have hkn:k=n+3:=by omega
   have i1:¬ (k:Int)<(n:Int)+3:=by omega
   have F:Hid (Kept (fun i=>i=g) w wr):=H.out.2
   clear H
   go_wp2
   go_ret
   exact ⟨rfl,F.out⟩
set_option maxHeartbeats 1000000 in
theorem told13_any {w:World} {h g room:Nat} {l:List Nd} (p:Hp w h g room l) :
  Calls Tryz.prog 13 #[.pointer (some ⟨h,0,none⟩)] w fun e w' => ∃ v,e=.returned (.tuple #[v,.bool true])∧NRow (fun b=>w.heap.size≤b) w.heap.size w' v l∧Same0 w w' := by
 have hle:=p.le
 have hr2:=p.rm2
 have HP:Hid (∀ ww,Same0 w ww→Hp ww h g room l):=fun ww hk=>p.same hk
 have KR:Same0 w w:=Kept.refl _ _
 clear p
 go_enter Tryz.func13,Tryz.ntmps13
 go_wp2
 go_loopw [4,5] (fun v i wr=>∃ (k:Nat),i=.int .i64 (k:Int)∧k≤l.length∧NRow (fun b=>w.heap.size≤b) w.heap.size wr v (l.take k)∧Same0 w wr) (fun _ i _=>l.length-(intOf i).toNat)
 case atStart=>exact ⟨0,rfl,Nat.zero_le _,NRow.nil _ _ _,KR⟩
 case round=>
  clear KR
  obtain ⟨k,rfl,hk,hrow,hw⟩:=hrel
  have pr:=HP.out wr hw
  have CU:=used_any pr
  obtain ⟨vo,vc,rfl⟩:=hrow.shape
  have hlk:(l.take k).length=k:=by simp;omega
  rw [hlk] at hrow
  by_cases hlt:k<l.length
  ·have j1:(k:Int)<(l.length:Int):=by omega
   have j2:(k:Int)<4000:=by omega
   have C1:=hat_yes pr k hlt
   have HT:Hid (l.take (k+1)=l.take k ++ [l[k]]):=List.take_succ_eq_append_getElem hlt
   have HLK:Hid ((l.take k).length=k):=hlk
   rw [hlk]
   clear pr hlk
   go_upto_region 8 with (first | (go_at_call 38;refine CU.mono ?_;rintro e w3 ⟨rfl,h3⟩;have h3:=h3.symm;subst h3) | (go_at_call 21;refine C1.mono ?_;rintro e w3 ⟨bo,bc,rfl,ha,hbb,k3⟩))
   obtain ⟨W3,hW3⟩:∃ W3,W3=w3.alloc (.cells #[.int .i64 l[k].1,.slice bo l[k].2.1.length bc,.int .i64 l[k].2.2.1,.bool l[k].2.2.2.1,.int .i64 l[k].2.2.2.2] 76):=⟨_,rfl⟩
   have kk:Same0 w3 W3:=by rw [hW3];exact (Kept.refl _ _).alloc _
   have K3:Same0 wr W3:=k3.trans' kk
   obtain ⟨x0,x1,x2,x3,x4⟩:=box_node' w3 l[k] bo bc (show Same0 _ W3 by rw [hW3];exact Kept.refl _ _)
   have ha3:=ha.same kk
   have hr3:=hrow.same K3
   have hsz:w.heap.size≤W3.heap.size:=(hw.trans' K3).size
   have hbb' : ∀ b,bo=some b→w.heap.size≤b.block:=fun b e=>Nat.le_trans hw.size (hbb b e)
   have kW:=(Kept.refl (fun _=>False) W3).alloc (.cells #[.int .i64 l[k].1,.slice bo l[k].2.1.length bc,.int .i64 l[k].2.2.1,.bool l[k].2.2.2.1,.int .i64 l[k].2.2.2.2] 76)
   have hq:=heap_at_node W3 l[k] bo bc
   have HKK:Hid (∀ ww,Kept (fun i=>(Value.slice vo k vc).ownBlock=some i) W3 ww→Same0 w ww):=fun ww hk=>NRow.onto (hw.trans' K3) hr3 hk
   rw [← hW3]
   clear hW3 C1 CU k3 ha hrow hbb kk
   go_wp2_with (first | (at_builtin;refine wpList_nd rfl _ _ rfl w.heap.size (l.take k) _ rfl kW hr3 l[k] bo bc _ rfl hq ha3 hbb' hsz (by rw [HLK.out];omega) ?_;rw [HLK.out];intro g4 cap4 w4 hr4 hk4 hor))
   have hr5:NRow (fun b=>w.heap.size≤b) w.heap.size w4 (.slice (some ⟨g4,0,none⟩) (k+1) cap4) (l.take (k+1)):=by rw [HT.out];exact hr4
   have hk5:Same0 w w4:=HKK.out w4 hk4
   go_roundw
   case rel=>first | exact ⟨k+1,by go_num,by omega,hr5,hk5⟩ | ((repeat apply Exists.intro);exact ⟨⟨k+1,by go_num,by omega,hr5,hk5⟩,rfl⟩)
   case measure=>simp [intOf];omega
  ·obtain rfl:k=l.length:=by omega
   rw [List.take_length] at *
   clear hlk pr
   go_wp2_with (first | (go_at_call 38;refine CU.mono ?_;rintro e w3 ⟨rfl,h3⟩;have h3:=h3.symm;subst h3))
   go_ret2
   exact ⟨_,rfl,hrow,hw⟩
set_option maxHeartbeats 2000000 in
theorem sign_any (ao:Option Addr) (len cap:Nat) (xs:List Sym) (w:World) (hx:SymsAt w ao len xs) (hm:len≤maxLen) :
  Calls Tryz.prog 6 #[.slice ao len cap] w fun e w' => ∃ b rv,e=.returned (.tuple #[.pointer (some ⟨b,0,none⟩),rv])∧Sg w'.heap.size w' b (madeL xs)∧Rl w'.heap.size w' rv (madeL xs)∧Same0 w w' := by
 unfold maxLen at hm
 go_enter Tryz.func6,Tryz.ntmps6
 go_wp2_with (first | (go_at_call 24;refine (new_any _).mono ?_;rintro e w' ⟨rfl,rfl⟩))
 go_loopw [6] (fun i wr=>∃ (k:Nat) (sv:Value) (mr:Option Nat) (rv:Value),k≤len∧i=.int .i64 (k:Int)∧Both w.heap.size w wr w.heap.size (w.heap.size+1) (madeL (xs.take k)) sv mr rv) (fun i _=>len-(intOf i).toNat)
 case atStart=>exact ⟨0,_,_,_,Nat.zero_le _,rfl,Both.start w⟩
 case round=>
  obtain ⟨k,sv,mr,rv,hk,rfl,hb⟩:=hrel
  have hlen:=hb.sg.len
  by_cases hlt:k<len
  ·obtain ⟨xl,xc,xw⟩:=hx.kept (from_below hb.k).below
   obtain ⟨xb,off,rfl,hxb,hxc⟩:=xc.resolve_left (by omega)
   have hkx:k<xs.length:=by omega
   obtain ⟨x0,x1,x2⟩:=hxc k hkx
   have xsz:=(xw xs[k] (List.getElem_mem hkx)).1
   have i1:(0:Int)≤(k:Int):=by omega
   have i2:(k:Int)<(len:Int):=by omega
   have E1:Hid (madeL (xs.take (k+1))=addL (madeL (xs.take k)) xs[k]):=madeL_snoc hkx
   have hn0:=hb.k.size
   have hxs:=hx
   clear hxc xw xc xl
   generalize madeL (xs.take k)=L at *
   go_wp2_with fail
   refine (add_any hb.sg xs[k] xsz).mono ?_
   rintro e w1 ⟨rfl,sv1,mr1,h1,h2,h3⟩
   have hr1:RefAt w1 (w.heap.size+1) L rv:=hb.rf.kept h2 (fun k hk' e=>hb.d k e hk')
   have k1:Kept (From w.heap.size) w w1:=hb.k.trans h2 (fun i _ e=>hb.f i e)
   obtain ⟨y0,y1,y2⟩:w1.cell? ⟨xb,off+k * 3,none⟩=some (.string xs[k].name)∧w1.cell? ⟨xb,off+k * 3+1,none⟩=some (.int .i64 xs[k].ar)∧w1.cell? ⟨xb,off+k * 3+2,none⟩=some (.bool xs[k].df):=by
    obtain ⟨_,yc,_⟩:=hxs.kept (from_below k1).below
    obtain ⟨_,_,e,_,hyc⟩:=yc.resolve_left (by omega)
    simp only [Option.some.injEq,Addr.mk.injEq,and_true] at e
    rw [e.1,e.2]
    exact hyc k hkx
   clear x0 x1 x2
   go_wp2_with fail
   refine (radd_any hr1 hlen xs[k] xsz).mono ?_
   rintro e w2 ⟨rfl,hr⟩
   obtain ⟨rv2,hb2⟩:=hb.next xs[k] hn0 h1 h2 h3 hr
   go_wp2
   refine ⟨⟨k+1,sv1,mr1,rv2,by omega,by go_num,?_⟩,by simp [intOf];omega⟩
   rw [E1.out];exact hb2
  ·have hxl:=hx.1
   have E1:xs.take k=xs:=List.take_of_length_le (by omega)
   rw [E1] at hb hlen
   have r0:=hb.rf.c0
   clear E1
   go_wp2
   go_quiet (fail)
   go_wp2
   go_ret2
   have kd:Same0 wr (wr.drewN nq):=(Kept.refl _ _).drewN nq
   have fin:Sg wr.heap.size wr w.heap.size (madeL xs)∧Rl wr.heap.size wr rv (madeL xs)∧Same0 w wr:=⟨⟨⟨sv,mr,hb.sg,sig_foot_lt hb.sg⟩,hb.a⟩,⟨hb.rf.row,fun k e=>hb.rf.lt k (.inr e),hb.a,hlen⟩,from_below hb.k⟩
   exact ⟨w.heap.size,rv,rfl,fin.1.same kd,fin.2.1.same kd,fin.2.2.trans' kd⟩
end Go.Proofs.YtblgblgchkonhaaGreat
