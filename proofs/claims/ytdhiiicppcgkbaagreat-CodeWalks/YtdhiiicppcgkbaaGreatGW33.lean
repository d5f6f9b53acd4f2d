import Derived.Test.YtdhiiicppcgkbaaGreatGW19
import Derived.Test.YtdhiiicppcgkbaaGreatGW20
import Derived.Test.YtdhiiicppcgkbaaGreatGW30
import Derived.Test.YtdhiiicppcgkbaaGreatGW32
import Derived.Test.YtdhiiicppcgkbaaGreatGW31
import Derived.Test.YtdhiiicppcgkbaaGreatGW16
import Derived.Deep.RegionHeld3
namespace Go.Proofs.YtdhiiicppcgkbaaGreat
set_option maxRecDepth 100000
set_option linter.unusedVariables false
open Go.RowKit
attribute [local go_sem ↓] Go.wp_at_zero Go.wp_at_succ
def FdOut (w:World) (R:Fd) (e:Ending) (w' : World):Prop:=∃ po pc,e=.returned (.tuple #[.agg #[.int .i64 R.1,.int .i64 R.2.1,.slice po R.2.2.1.length pc,.int .i64 R.2.2.2.1],.int .i64 R.2.2.2.2])∧Row w.heap.size w' (.slice po R.2.2.1.length pc) R.2.2.1∧Same0 w w'
theorem WAt.same {B:Nat→Prop} {b:Nat} {L:List Sym} {U:List Int} {a:Int} {R:Fd} {w w' : World} {N:Nat} (h:WAt B b L U a R w N) (hk:Same0 w w'):WAt B b L U a R w' N:=by
 obtain ⟨n,t,x0,x1,x2,x3,h1,h2,h3,h4,h5⟩:=h
 exact ⟨n,t,x0,x1,x2,x3,h1,hk.at0 h2,h3.same hk,h4,h5⟩
set_option maxHeartbeats 8000000 in
theorem walk_go {w:World} {bs:Nat} {L:List Sym} (hs:Sg w.heap.size w bs L) {n:Nat} {v:Value} {t:Tr n} (h:CsB (fun b=>b<w.heap.size) w n v t) (hsm:SmW n t) {tto:Option Addr} {tc:Nat} {T:List Int} (ht:Arg w tto T tc) (hc:checkE L T=0) (hv:T.any (fun x=>decide (x<0))=false) {a:Nat} (ha:a<T.length) :
  Calls Tryz.prog 36 #[.pointer (some ⟨bs,0,none⟩),v,.slice tto T.length tc,.int .i64 (a:Int)] w (FdOut w (goF L (subN L T a) a n t)):=by
 obtain ⟨k,r,po,pl,pc,ko,kl,kc,rfl⟩:=h.shape
 have hT:=checkE_zero.1 hc
 have hpz:placeE L T (a:Int)=0:=by unfold placeE;rw [if_neg (by simp [hc]),if_neg (by omega)]
 have hsub:checkE L (subN L T a)=0:=by
  refine checkE_zero.2 ⟨?_,?_,sub_need hT.2.2 ha⟩
  ·rw [sub_length hT.2.2 ha];have:=(endN_le hT.2.2 ha).2;omega
  ·refine badE_zero.2 (fun x hx=>badE_zero.1 hT.2.1 x ?_)
   unfold subN at hx
   exact List.mem_of_mem_take (List.mem_of_mem_drop hx)
 have hUT:=sub_need hT.2.2 ha
 have hUl:=checkE_zero.1 hsub
 obtain ⟨W1,hW1⟩:∃ W1,W1=(w.alloc (.cells #[.int .i64 k,.int .i64 r,.slice po pl pc,.slice ko kl kc] 25)).alloc (.cells #[.int .i64 0,.int .i64 0,.slice none 0 0,.int .i64 0] 73):=⟨_,rfl⟩
 have KW:Same0 w W1:=by rw [hW1];exact ((Kept.refl _ w).alloc _).alloc _
 have ez:w.heap.size+1<W1.heap.size:=by rw [hW1];simp
 have b0:W1.heap[w.heap.size]? = some (.cells #[.int .i64 k,.int .i64 r,.slice po pl pc,.slice ko kl kc] 25 (0,0)):=by rw [hW1];exact heap_alloc2_old _ _ _
 have SW:Hid (∀ ww,Kept (fun q=>q=w.heap.size) W1 ww→Same0 w ww):=fun ww hk=>Kept.trans KW hk (fun i hi e=>by omega)
 have RS:Hid (∀ ww,Kept (fun q=>q=w.heap.size) W1 ww→ww.heap[w.heap.size+1]? = some (.cells #[.int .i64 0,.int .i64 0,.slice none 0 0,.int .i64 0] 73 (0,0))):=fun ww hk=>hk.at (by rw [hW1];exact heap_al_al _ _ _) (fun e=>by omega)
 have RC:Hid (∀ ww,Kept (fun q=>q=w.heap.size) W1 ww→(ww.cell? ⟨w.heap.size+1,0,none⟩=some (.int .i64 0)∧ww.cell? ⟨w.heap.size+1,1,none⟩=some (.int .i64 0)∧ww.cell? ⟨w.heap.size+1,2,none⟩=some (.slice none 0 0)∧ww.cell? ⟨w.heap.size+1,3,none⟩=some (.int .i64 0))∧ww.frozen? ⟨w.heap.size+1,0,none⟩=false∧ww.frozen? ⟨w.heap.size+1,1,none⟩=false∧ww.frozen? ⟨w.heap.size+1,2,none⟩=false∧ww.frozen? ⟨w.heap.size+1,3,none⟩=false):=fun ww hk=>by
  have rs:=RS.out ww hk
  exact ⟨⟨cellAt rs 0,cellAt rs 1,cellAt rs 2,cellAt rs 3⟩,frozenAt rs 0,frozenAt rs 1,frozenAt rs 2,frozenAt rs 3⟩
 have PUT:Hid (∀ ww x0 x1 x2 x3,Kept (fun q=>q=w.heap.size) W1 ww→(((((ww.setCell ⟨w.heap.size+1,0,none⟩ x0).setCell ⟨w.heap.size+1,1,none⟩ x1).setCell ⟨w.heap.size+1,2,none⟩ x2).setCell ⟨w.heap.size+1,3,none⟩ x3)).cell? ⟨w.heap.size+1,0,none⟩=some x0∧(((((ww.setCell ⟨w.heap.size+1,0,none⟩ x0).setCell ⟨w.heap.size+1,1,none⟩ x1).setCell ⟨w.heap.size+1,2,none⟩ x2).setCell ⟨w.heap.size+1,3,none⟩ x3)).cell? ⟨w.heap.size+1,1,none⟩=some x1∧(((((ww.setCell ⟨w.heap.size+1,0,none⟩ x0).setCell ⟨w.heap.size+1,1,none⟩ x1).setCell ⟨w.heap.size+1,2,none⟩ x2).setCell ⟨w.heap.size+1,3,none⟩ x3)).cell? ⟨w.heap.size+1,2,none⟩=some x2∧(((((ww.setCell ⟨w.heap.size+1,0,none⟩ x0).setCell ⟨w.heap.size+1,1,none⟩ x1).setCell ⟨w.heap.size+1,2,none⟩ x2).setCell ⟨w.heap.size+1,3,none⟩ x3)).cell? ⟨w.heap.size+1,3,none⟩=some x3∧Kept (fun q=>q=w.heap.size+1) ww ((((ww.setCell ⟨w.heap.size+1,0,none⟩ x0).setCell ⟨w.heap.size+1,1,none⟩ x1).setCell ⟨w.heap.size+1,2,none⟩ x2).setCell ⟨w.heap.size+1,3,none⟩ x3)∧Same0 w ((((ww.setCell ⟨w.heap.size+1,0,none⟩ x0).setCell ⟨w.heap.size+1,1,none⟩ x1).setCell ⟨w.heap.size+1,2,none⟩ x2).setCell ⟨w.heap.size+1,3,none⟩ x3)):=by
  intro ww x0 x1 x2 x3 hk
  have rs:=RS.out ww hk
  have s3:=setAt (setAt (setAt (setAt rs 0 x0) 1 x1) 2 x2) 3 x3
  have k1:=Kept.setCell (p:=⟨w.heap.size+1,0,none⟩) (Kept.refl (fun q=>q=w.heap.size+1) ww) (fun _=>rfl) x0
  have k2:=Kept.setCell (p:=⟨w.heap.size+1,1,none⟩) k1 (fun _=>rfl) x1
  have k3:=Kept.setCell (p:=⟨w.heap.size+1,2,none⟩) k2 (fun _=>rfl) x2
  have k4:=Kept.setCell (p:=⟨w.heap.size+1,3,none⟩) k3 (fun _=>rfl) x3
  exact ⟨cellAt s3 0,cellAt s3 1,cellAt s3 2,cellAt s3 3,k4,Kept.trans (SW.out ww hk) k4 (fun i hi e=>by omega)⟩
 have C1:=check_any (cap:=tc) (sg_up (hs.same KW) KW.size) (ht.same KW).at' (by unfold maxLen;omega)
 rw [hc] at C1
 have C2:Hid (∀ ww,Same0 W1 ww→Calls Tryz.prog 60 #[.slice tto T.length tc,.func (.func 74) #[] #[]] ww fun e w' => e=.returned (.bool false)∧w' = ww):=fun ww hk=>by
  have:=containsf_var (sc:=tc) ((ht.same KW).same hk).at' (by unfold maxLen;omega)
  rw [hv] at this
  exact this
 have C3:Hid (∀ ww,Same0 W1 ww→Calls Tryz.prog 75 #[.pointer (some ⟨bs,0,none⟩),.slice tto T.length tc,.int .i64 (a:Int)] ww fun e w' => ∃ uo uc,e=.returned (.tuple #[.slice uo (subN L T a).length uc,.int .i64 0])∧Hid (IntsAt w' uo (subN L T a)∧∀ a,uo=some a→ww.heap.size≤a.block)∧Same0 ww w'):=fun ww hk=>by
  refine (sub_any (cap:=tc) (sg_up ((hs.same KW).same hk) (KW.trans' hk).size) ((ht.same KW).same hk).at' (by unfold maxLen;omega) ht.cap' (a:Int)).mono ?_
  rintro e w' ⟨v,rfl,hr,k⟩
  rw [subA,if_pos hpz] at hr
  simp only [Int.toNat_natCast] at hr
  obtain ⟨uo,uc,rfl,h1,_,h2⟩:=hr.ints
  exact ⟨uo,uc,by rw [hpz],⟨h1,fun a e=>(h2 a e).1⟩,k⟩
 have HS:Hid (∀ ww,Kept (fun q=>q=w.heap.size) W1 ww→Sg ww.heap.size ww bs L):=fun ww hk=>by
  have:=SW.out ww hk
  exact sg_up (hs.same this) this.size
 have hw0:WAt (fun b=>b<w.heap.size) w.heap.size L (subN L T a) a (goF L (subN L T a) a n t) W1 (mesT n t):=⟨n,t,_,_,_,_,rfl,b0,h.same KW,hsm,rfl⟩
 generalize goF L (subN L T a) a n t=R at *
 generalize subN L T a=U at *
 have HAL:Hid (a≤2000):=by have:=hT.1;show a≤2000;omega
 have HUT:Hid (IsT L U∧checkE L U=0∧U.length≤2000):=⟨hUT,hsub,by have:=hUl.1;omega⟩
 have HW0:Hid (∃ N,WAt (fun b=>b<w.heap.size) w.heap.size L U a R W1 N):=⟨_,hw0⟩
 clear hw0 b0 hsub hUl hUT hT hc hv hpz ht hs h hsm
 go_enter Tryz.func36,Tryz.ntmps36
 go_upto_region 1 with fail
 rw [← hW1]
 clear hW1
 go_upto_region 4 with (first | (go_at_call 59;refine C1.mono ?_;rintro e w2 ⟨rfl,k2⟩))
 have D2:=C2.out w2 k2
 go_upto_region 6 with (first | (go_at_call 60;refine D2.mono ?_;rintro e w3 ⟨rfl,rfl⟩))
 have D3:=C3.out w3 k2
 go_wp2_with (first | (go_at_call 75;refine D3.mono ?_;rintro e w4 ⟨uo,uc,rfl,hu,k4⟩))
 have k14:=k2.trans' k4
 obtain ⟨hu1,hu2⟩:=hu.out
 have HU:Hid (IntsAt w4 uo U):=hu1
 have z2:=k2.size
 have HU2:Hid (∀ a,uo=some a→w.heap.size+1<a.block):=fun a e=>by have:=hu2 a e;omega
 have HW4:Hid (∃ N,WAt (fun b=>b<w.heap.size) w.heap.size L U a R w4 N):=by obtain ⟨N,hN⟩:=HW0.out;exact ⟨N,hN.same k14⟩
 have KT:Hid (∀ ww w5,Kept (fun q=>q=w.heap.size) W1 ww→Same0 ww w5→Kept (fun q=>q=w.heap.size) W1 w5):=fun ww w5 h1 h2=>Kept.trans h1 h2.mono' (fun _ _ z=>z)
 clear hu hu1 hu2 HW0 C1 C2 C3 D2 D3 z2
 obtain ⟨leastD,HLD⟩:∃ f:(Nat→Prop)→Nat,Hid ((∀ P:Nat→Prop,(∃ n,P n)→P (f P))∧∀ (P:Nat→Prop) n,P n→f P≤n):=least_fun
 go_loopw [] (fun wr=>Hid (∃ N,WAt (fun b=>b<w.heap.size) w.heap.size L U a R wr N)∧Hid (IntsAt wr uo U)∧Kept (fun q=>q=w.heap.size) W1 wr) (fun wr=>leastD (WAt (fun b=>b<w.heap.size) w.heap.size L U a R wr))
 case atStart=>exact ⟨HW4,HU,k14.mono'⟩
 case round=>
  clear HW4 HU
  obtain ⟨hN,hu,kw⟩:=hrel
  obtain ⟨n,t,x0,x1,x2,x3,hm,hb,hcs,hsm,hg⟩:=HLD.out.1 _ hN.out
  have HM:Hid (leastD (WAt (fun b=>b<w.heap.size) w.heap.size L U a R wr)=mesT n t):=hm.symm
  clear hm hN
  cases n with
  | zero=>exact hcs.elim
  | succ n=>
   obtain ⟨k,r,p,l⟩:=t
   have HC:Hid (CsB (fun b=>b<w.heap.size) wr (n+1) (.agg #[x0,x1,x2,x3]) (k,r,p,l)):=hcs
   obtain ⟨po,pc,ko,kc,e,h2,h3,h4,h5,h6⟩:=hcs
   simp only [Value.agg.injEq,Array.mk.injEq,List.cons.injEq,and_true] at e
   obtain ⟨rfl,rfl,rfl,rfl⟩:=e
   obtain ⟨hl9,hsk⟩:=hsm
   have c0:=cellAt hb 0
   have c1:=cellAt hb 1
   have c2:=cellAt hb 2
   have c3:=cellAt hb 3
   have q0:=frozenAt hb 0
   have q1:=frozenAt hb 1
   have q2:=frozenAt hb 2
   have q3:=frozenAt hb 3
   simp only [List.getElem?_toArray,List.getElem?_cons_zero,List.getElem?_cons_succ] at c0 c1 c2 c3
   by_cases hk2:k=2
   ·subst hk2
    have D4:Calls Tryz.prog 76 #[.pointer (some ⟨bs,0,none⟩),.slice uo U.length uc,.slice po p.length pc] wr fun e w' => e=.returned (.tuple #[.int .i64 (match leads L U 0 p with | some q=>(q:Int) | none=>0),.int .i64 (match leads L U 0 p with | some _=>0 | none=>25)])∧Same0 wr w' := by
     have:=place_any (cap:=uc) (pcap:=pc) (HS.out wr kw) hu.out (by have:=HUT.out.2.2;unfold maxLen;omega) h2.at' (by have:=h2.size;unfold maxLen;omega)
     unfold leadA leadE at this
     rw [if_neg (by simp [HUT.out.2.1]),if_neg (by simp [HUT.out.2.1])] at this
     exact this
    cases hq:leads L U 0 p with
    | none=>
     rw [hq] at D4
     have HR:Hid (R=(0,0,[],0,25)):=by show _=_;rw [← hg,goF,if_pos rfl,hq]
     clear hg hq h6 h2 h3 hb HC hsk hu
     go_wp2_with (first | (go_at_call 76;refine D4.mono ?_;rintro e w5 ⟨rfl,k5⟩;obtain ⟨⟨r0,r1,r2,r3⟩,g0,g1,g2,g3⟩:=RC.out w5 (KT.out wr w5 kw k5)))
     obtain ⟨y0,y1,y2,y3,kk,ks⟩:=PUT.out w5 (.int .i64 0) (.int .i64 0) (.slice none 0 0) (.int .i64 0) (KT.out wr w5 kw k5)
     exact bodyPost_ret (v:=.tuple #[.agg #[.int .i64 0,.int .i64 0,.slice none 0 0,.int .i64 0],.int .i64 25]) (by simp [results,Tryz.results36,go_sem,y0,y1,y2,y3]) rfl (by rw [HR.out];exact ⟨none,0,rfl,World.ownsRow_nil _ _ _ _,ks⟩)
    | some q=>
     rw [hq] at D4
     have hql:q<U.length:=leads_lt HUT.out.1 p 0 (isT_pos HUT.out.1) q hq
     have hgd:U.getD q 0=U[q]:=by simp [hql]
     have i1:(0:Int)≤(q:Int):=by omega
     have i2:(q:Int)<(U.length:Int):=by omega
     have C5:Hid (∀ ww,Kept (fun q=>q=w.heap.size) W1 ww→Calls Tryz.prog 69 #[.pointer (some ⟨bs,0,none⟩),.int .i64 U[q]] ww fun e w' => e=.returned (.bool (defB L U[q]))∧Same0 ww w'):=fun ww hk=>tdef_any (HS.out ww hk) _
     obtain ⟨ub,uoff,rfl,hub,hcell⟩:=hu.out.get hql
     have HCL:Hid (∀ ww,Same0 wr ww→ww.cell? ⟨ub,uoff+q,none⟩=some (.int .i64 U[q])):=fun ww hk=>(hk.cell (p:=⟨ub,uoff+q,none⟩) hub (fun f=>f)).trans hcell
     have BXC:Hid (∀ ww,Same0 wr ww→(ww.cell? ⟨w.heap.size,0,none⟩=some (.int .i64 2)∧ww.cell? ⟨w.heap.size,1,none⟩=some (.int .i64 r)∧ww.cell? ⟨w.heap.size,2,none⟩=some (.slice po p.length pc)∧ww.cell? ⟨w.heap.size,3,none⟩=some (.slice ko l.length kc))∧ww.frozen? ⟨w.heap.size,0,none⟩=false∧ww.frozen? ⟨w.heap.size,1,none⟩=false∧ww.frozen? ⟨w.heap.size,2,none⟩=false∧ww.frozen? ⟨w.heap.size,3,none⟩=false):=fun ww hk=>by
      have h1:=hk.at0 hb
      exact ⟨⟨cellAt h1 0,cellAt h1 1,cellAt h1 2,cellAt h1 3⟩,frozenAt h1 0,frozenAt h1 1,frozenAt h1 2,frozenAt h1 3⟩
     cases hd:defB L U[q] with
     | true=>
      rw [hd] at C5
      have HR:Hid (R=(3,0,p,(a:Int)+q,0)):=by show _=_;rw [← hg,goF,if_pos rfl,hq];simp only [hgd,hd,if_true]
      have C6:Hid (∀ ww,Same0 wr ww→Calls Tryz.prog 77 #[.slice po p.length pc] ww fun e w' => ∃ co cc,e=.returned (.slice co p.length cc)∧Hid (Row ww.heap.size w' (.slice co p.length cc) p)∧Same0 ww w'):=fun ww hk=>by
       refine (cloneI_any (h2.same hk)).mono ?_
       rintro e w' ⟨v,rfl,hr,k⟩
       obtain ⟨co,cc,rfl⟩:=row_shape hr
       exact ⟨co,cc,rfl,hr,k⟩
      have ew:IntKind.i64.wrap ((a:Int)+(q:Int))=(a:Int)+(q:Int):=by have:=HAL.out;have:=HUT.out.2.2;exact iwrap (by omega) (by omega)
      have ROWF:Hid (∀ w6 w7 ww co cc,Same0 wr w6→Row w6.heap.size w7 (.slice co p.length cc) p→Kept (fun q=>q=w.heap.size+1) w7 ww→Row w.heap.size ww (.slice co p.length cc) p):=fun w6 w7 ww co cc k6 r7 kk=>by
       have z6:=k6.size
       have z5:=kw.size
       refine row_mono (kk.row r7 (fun k e f=>?_)) (by omega)
       obtain ⟨o1,o2,e1,_,_,o3⟩:=Row.ints r7
       cases e1
       cases co with
       | none=>simp [Value.ownBlock] at e
       | some a=>simp only [Value.ownBlock,Option.some.injEq] at e;have:=(o3 a rfl).1;omega
      clear hg hq h6 h2 h3 hb HC hsk hu hd hcell
      go_upto_region 13 with (first | (go_at_call 76;refine D4.mono ?_;rintro e w5 ⟨rfl,k5⟩))
      have u5:=HCL.out w5 k5
      have D5:=C5.out w5 (KT.out wr w5 kw k5)
      go_upto_region 14 with (first | (go_at_call 69;refine D5.mono ?_;rintro e w6 ⟨rfl,k6⟩))
      have k16:=k5.trans' k6
      obtain ⟨⟨d0,d1,d2,d3⟩,_⟩:=BXC.out w6 k16
      have D6:=C6.out w6 k16
      go_wp2_with (first | (go_at_call 77;refine D6.mono ?_;rintro e w7 ⟨co,cc,rfl,hcl,k7⟩;obtain ⟨⟨r0,r1,r2,r3⟩,f0,f1,f2,f3⟩:=RC.out w7 (KT.out wr w7 kw (k16.trans' k7))))
      obtain ⟨y0,y1,y2,y3,kk,ks⟩:=PUT.out w7 (.int .i64 3) (.int .i64 0) (.slice co p.length cc) (.int .i64 ((a:Int)+(q:Int))) (KT.out wr w7 kw (k16.trans' k7))
      exact bodyPost_ret (v:=.tuple #[.agg #[.int .i64 3,.int .i64 0,.slice co p.length cc,.int .i64 ((a:Int)+(q:Int))],.int .i64 0]) (by simp [results,Tryz.results36,go_sem,y0,y1,y2,y3]) rfl (by rw [HR.out];exact ⟨co,cc,rfl,ROWF.out w6 w7 _ co cc k16 hcl.out kk,ks⟩)
     | false=>
      rw [hd] at C5
      have HR:Hid (R=(match kidOf U[q] l with | none=>(2,0,[],0,0) | some t=>goF L U a n t)):=by show _=_;rw [← hg,goF,if_pos rfl,hq];simp only [hgd,hd,if_false,Bool.false_eq_true];cases kidOf U[q] l <;> rfl
      have FO:Hid (∀ ww,Same0 wr ww→Calls Tryz.prog 78 #[.agg #[.int .i64 2,.int .i64 r,.slice po p.length pc,.slice ko l.length kc],.int .i64 U[q]] ww fun e w' => ∃ z0 z1 zo zl zc yo yl yc,e=.returned (.agg #[.int .i64 z0,.int .i64 z1,.slice zo zl zc,.slice yo yl yc])∧Same0 ww w' ∧ Hid (match kidOf U[q] l with | some t=>CsB (fun b=>b<w.heap.size) w' n (.agg #[.int .i64 z0,.int .i64 z1,.slice zo zl zc,.slice yo yl yc]) t | none=>Value.agg #[.int .i64 z0,.int .i64 z1,.slice zo zl zc,.slice yo yl yc]=failV)):=fun ww hk=>(following_any (HC.out.same hk) hl9 U[q]).mono (fun e w' ⟨x0,x1,x2,x3,f1,f2,f3⟩=>by
       cases hkd:kidOf U[q] l with
       | none=>
        rw [hkd] at f3
        exact ⟨3,0,none,0,0,none,0,0,by rw [f1,f3],f2,rfl⟩
       | some t=>
        rw [hkd] at f3
        obtain ⟨z0,z1,zo,zl,zc,yo,yl,yc,ez⟩:=f3.shape
        exact ⟨z0,z1,zo,zl,zc,yo,yl,yc,by rw [f1,ez],f2,by rw [ez] at f3;exact f3⟩)
      have FINZ:Hid (∀ w7 z0 z1 zo zl zc yo yl yc,Same0 wr w7→Hid (match kidOf U[q] l with | some t=>CsB (fun b=>b<w.heap.size) w7 n (.agg #[.int .i64 z0,.int .i64 z1,.slice zo zl zc,.slice yo yl yc]) t | none=>Value.agg #[.int .i64 z0,.int .i64 z1,.slice zo zl zc,.slice yo yl yc]=failV)→(Hid (∃ N,WAt (fun b=>b<w.heap.size) w.heap.size L U a R ((((w7.setCell ⟨w.heap.size,0,none⟩ (.int .i64 z0)).setCell ⟨w.heap.size,1,none⟩ (.int .i64 z1)).setCell ⟨w.heap.size,2,none⟩ (.slice zo zl zc)).setCell ⟨w.heap.size,3,none⟩ (.slice yo yl yc)) N)∧Hid (IntsAt ((((w7.setCell ⟨w.heap.size,0,none⟩ (.int .i64 z0)).setCell ⟨w.heap.size,1,none⟩ (.int .i64 z1)).setCell ⟨w.heap.size,2,none⟩ (.slice zo zl zc)).setCell ⟨w.heap.size,3,none⟩ (.slice yo yl yc)) (some ⟨ub,uoff,none⟩) U)∧Kept (fun q=>q=w.heap.size) W1 ((((w7.setCell ⟨w.heap.size,0,none⟩ (.int .i64 z0)).setCell ⟨w.heap.size,1,none⟩ (.int .i64 z1)).setCell ⟨w.heap.size,2,none⟩ (.slice zo zl zc)).setCell ⟨w.heap.size,3,none⟩ (.slice yo yl yc)))∧leastD (WAt (fun b=>b<w.heap.size) w.heap.size L U a R ((((w7.setCell ⟨w.heap.size,0,none⟩ (.int .i64 z0)).setCell ⟨w.heap.size,1,none⟩ (.int .i64 z1)).setCell ⟨w.heap.size,2,none⟩ (.slice zo zl zc)).setCell ⟨w.heap.size,3,none⟩ (.slice yo yl yc)))<leastD (WAt (fun b=>b<w.heap.size) w.heap.size L U a R wr)):=by
       intro w7 z0 z1 zo zl zc yo yl yc hk hz
       have hz:=hz.out
       have s3:=setAt (setAt (setAt (setAt (hk.at0 hb) 0 (.int .i64 z0)) 1 (.int .i64 z1)) 2 (.slice zo zl zc)) 3 (.slice yo yl yc)
       have k1:=Kept.setCell (p:=⟨w.heap.size,0,none⟩) (Kept.refl (fun q=>q=w.heap.size) w7) (fun _=>rfl) (.int .i64 z0)
       have k2:=Kept.setCell (p:=⟨w.heap.size,1,none⟩) k1 (fun _=>rfl) (.int .i64 z1)
       have k3:=Kept.setCell (p:=⟨w.heap.size,2,none⟩) k2 (fun _=>rfl) (.slice zo zl zc)
       have k4:=Kept.setCell (p:=⟨w.heap.size,3,none⟩) k3 (fun _=>rfl) (.slice yo yl yc)
       have hM:leastD (WAt (fun b=>b<w.heap.size) w.heap.size L U a R wr)=2 * (n+1)+1:=HM.out.trans (by simp [mesT])
       have hI:IntsAt ((((w7.setCell ⟨w.heap.size,0,none⟩ (.int .i64 z0)).setCell ⟨w.heap.size,1,none⟩ (.int .i64 z1)).setCell ⟨w.heap.size,2,none⟩ (.slice zo zl zc)).setCell ⟨w.heap.size,3,none⟩ (.slice yo yl yc)) (some ⟨ub,uoff,none⟩) U:=(hu.out.same hk).kept k4 (fun a e f=>by have:=HU2.out a e;omega)
       have hR:=HR.out
       obtain ⟨N,hN,hlt⟩:∃ N,WAt (fun b=>b<w.heap.size) w.heap.size L U a R ((((w7.setCell ⟨w.heap.size,0,none⟩ (.int .i64 z0)).setCell ⟨w.heap.size,1,none⟩ (.int .i64 z1)).setCell ⟨w.heap.size,2,none⟩ (.slice zo zl zc)).setCell ⟨w.heap.size,3,none⟩ (.slice yo yl yc)) N∧N<2 * (n+1)+1:=by
        cases hkd:kidOf U[q] l with
        | none=>
         rw [hkd] at hz hR
         simp only [failV,Value.agg.injEq,Array.mk.injEq,List.cons.injEq,and_true,Value.int.injEq,Value.slice.injEq,true_and] at hz
         obtain ⟨rfl,rfl,⟨rfl,rfl,rfl⟩,rfl,rfl,rfl⟩:=hz
         exact ⟨2 * (n+1),⟨n+1,((3,0,[],[]):Int × Int × List Int × List (Int × Tr n)),_,_,_,_,by simp [mesT],s3,⟨none,0,none,0,rfl,⟨.inl rfl,Nat.le_refl _,fun _=>⟨rfl,rfl⟩,by simp⟩,.inl rfl,fun _=>rfl,Nat.le_refl _,.inl rfl⟩,⟨by simp,fun i h=>by simp at h⟩,by rw [hR];simp [goF]⟩,by omega⟩
        | some t' =>
         rw [hkd] at hz hR
         obtain ⟨i,hi,ei⟩:=kidOf_mem hkd
         have h9:=mesT_le n t'
         exact ⟨mesT n t', ⟨n,t', _,_,_,_,rfl,s3,CsB.kept k4 (fun b q f=>by omega) hz,by rw [← ei];exact hsk i hi,hR.symm⟩,by omega⟩
       refine ⟨⟨⟨N,hN⟩,hI,KT.out wr _ kw hk |>.trans k4 (fun _ _ z=>z)⟩,?_⟩
       rw [hM]
       exact Nat.lt_of_le_of_lt (HLD.out.2 _ _ hN) hlt
      clear hg hq h6 h2 h3 hb HC hu hd hcell
      go_upto_region 13 with (first | (go_at_call 76;refine D4.mono ?_;rintro e w5 ⟨rfl,k5⟩))
      have u5:=HCL.out w5 k5
      have D5:=C5.out w5 (KT.out wr w5 kw k5)
      go_upto_region 15 with (first | (go_at_call 69;refine D5.mono ?_;rintro e w6 ⟨rfl,k6⟩))
      have k16:=k5.trans' k6
      clear u5 c0 c1 c2 c3 q0 q1 q2 q3
      have u6:=HCL.out w6 k16
      obtain ⟨⟨d0,d1,d2,d3⟩,_⟩:=BXC.out w6 k16
      go_region_with (first | (go_at_call 78;refine (FO.out _ (by first | exact k16 | exact Kept.drewN k16 1)).mono ?_;rintro e w7 ⟨z0,z1,zo,zl,zc,yo,yl,yc,rfl,k7,hz⟩;obtain ⟨⟨v0,v1,v2,v3⟩,w0,w1,w2', w3'⟩:=BXC.out w7 (by first | exact k16.trans' k7 | exact Kept.trans (Kept.drewN k16 1) k7 (fun _ _ z=>z))))
      all_goals (go_wp2_with fail)
      all_goals exact FINZ.out w7 z0 z1 zo zl zc yo yl yc (by first | exact k16.trans' k7 | exact Kept.trans (Kept.drewN k16 1) k7 (fun _ _ z=>z)) hz
   ·have hke:(k == 2)=false:=by simpa using hk2
    by_cases hk1:k=1
    ·subst hk1
     have HR:Hid (R=(1,r,[],0,0)):=by show _=_;rw [← hg,goF,if_neg (by omega),if_pos rfl]
     obtain ⟨⟨r0,r1,r2,r3⟩,g0,g1,g2,g3⟩:=RC.out wr kw
     obtain ⟨y0,y1,y2,y3,kk,ks⟩:=PUT.out wr (.int .i64 1) (.int .i64 r) (.slice none 0 0) (.int .i64 0) kw
     have FIN:Hid (Same0 w _):=ks
     clear hg h6 h2 h3 hb HC hsk hu kk ks
     go_wp2_with fail
     exact bodyPost_ret (v:=.tuple #[.agg #[.int .i64 1,.int .i64 r,.slice none 0 0,.int .i64 0],.int .i64 0]) (by simp [results,Tryz.results36,go_sem,y0,y1,y2,y3]) rfl (by rw [HR.out];exact ⟨none,0,rfl,World.ownsRow_nil _ _ _ _,FIN.out⟩)
    ·have hke1:(k == 1)=false:=by simpa using hk1
     have HR:Hid (R=(2,0,[],0,0)):=by show _=_;rw [← hg,goF,if_neg hk2,if_neg hk1]
     obtain ⟨⟨r0,r1,r2,r3⟩,g0,g1,g2,g3⟩:=RC.out wr kw
     obtain ⟨y0,y1,y2,y3,kk,ks⟩:=PUT.out wr (.int .i64 2) (.int .i64 0) (.slice none 0 0) (.int .i64 0) kw
     have FIN:Hid (Same0 w _):=ks
     clear hg h6 h2 h3 hb HC hsk hu kk ks
     go_wp2_with fail
     exact bodyPost_ret (v:=.tuple #[.agg #[.int .i64 2,.int .i64 0,.slice none 0 0,.int .i64 0],.int .i64 0]) (by simp [results,Tryz.results36,go_sem,y0,y1,y2,y3]) rfl (by rw [HR.out];exact ⟨none,0,rfl,World.ownsRow_nil _ _ _ _,FIN.out⟩)
theorem smk_smw9:∀ {n:Nat} {t:Tr n},SmK n t→SmW n t
 | 0,_,_=>trivial
 | n+1,(k,r,p,l),h=>⟨Nat.le_trans h.1 (by omega),fun i hi=>smk_smw9 (h.2 i hi)⟩
theorem wne0 (w:World):(binOp .neq 47 .nilIface .nilIface).run Tryz.prog w=.ok (.bool false) w:=by kernel_rfl
theorem wne1 (v:Value) (w:World):(binOp .neq 47 (.iface 123 v) .nilIface).run Tryz.prog w=.ok (.bool true) w:=by kernel_rfl
theorem weq0 (w:World):(binOp .eql 47 .nilIface .nilIface).run Tryz.prog w=.ok (.bool true) w:=by kernel_rfl
theorem weq1 (v:Value) (w:World):(binOp .eql 47 (.iface 123 v) .nilIface).run Tryz.prog w=.ok (.bool false) w:=by kernel_rfl
theorem first_err (L:List Sym) (R:List Ru):∀ m:Nat,(∀ k:Nat,k<m→defB L (k:Int)=true→∃ t,treeF L R k=.ok t)∨∃ (K:Nat) (z:Int),K<m∧defB L (K:Int)=true∧treeF L R K=.error z∧∀ k:Nat,k<K→defB L (k:Int)=true→∃ t,treeF L R k=.ok t
 | 0=>.inl (fun k h=>absurd h (by omega))
 | m+1=>by
  rcases first_err L R m with h | ⟨K,z,h1,h2⟩
  ·by_cases hd:defB L (m:Int)=true
   ·cases ht:treeF L R m with
    | ok t=>exact .inl (fun k hk hd' => by
      by_cases e:k=m
      ·subst e;exact ⟨t,ht⟩
      ·exact h k (by omega) hd')
    | error z=>exact .inr ⟨m,z,by omega,hd,ht,h⟩
   ·exact .inl (fun k hk hd' => by
     by_cases e:k=m
     ·subst e;exact absurd hd' hd
     ·exact h k (by omega) hd')
  ·exact .inr ⟨K,z,by omega,h2⟩
set_option maxHeartbeats 32000000 in
theorem cwalks_walk {w:World} {ao:Option Addr} {len cap:Nat} {xs:List Sym} (hx:SymsAt w ao len xs) (hm:len≤maxLen) {po:Option Addr} {pc:Nat} {l:List Ru} (hp:ArgR w po l pc) {to' : Option Addr} {tc:Nat} {T:List Int} (ht:Arg w to' T tc) :
  Calls Tryz.prog 7 #[.slice ao len cap,.slice po l.length pc,.slice to' T.length tc] w fun e w' => e=.returned (.bool true)∧Below w.heap.size w w' := by
 have hn0:=wne0
 have hn1:=wne1
 have hq0:=weq0
 have hq1:=weq1
 have hpn:=ptr_nil
 have hls:l.length≤140737488355328:=by have:=hp.size;omega
 have hts:=ht.size
 have htm:T.length≤maxLen:=by unfold maxLen;omega
 have CA:=awake9_any w
 have CS:Hid (∀ ww,Same0 w ww→Calls Tryz.prog 15 #[.slice ao len cap,.slice po l.length pc] ww (StoPost (madeL xs) l ww)):=fun ww hk=>stored_any (SymsAt.same8 hx hk) hm (hp.at'.same hk) hls hp.cap'
 generalize madeL xs=L at *
 clear hx hp hm hls
 go_enter Tryz.func7,Tryz.ntmps7
 go_upto_region 2 with (first | (go_at_call 10;refine CA.mono ?_;rintro e w1 ⟨rfl,k1⟩))
 have C1:=CS.out w1 k1
 go_upto_region 3 with (first | (go_at_call 15;refine C1.mono ?_;rintro e w2 ⟨bs,b,m,ro,rc,lv,vs,mv,ms,R,rfl,hT,hR⟩))
 have K2:Same0 w w2:=k1.trans' hT.same
 have hst:=hT.st
 have hmo:=hT.mo
 have hgood:=hT.good
 have hL64:L.length≤64:=by obtain ⟨⟨sv,mr,hs,_⟩,_⟩:=hst.sig;exact hs.len
 have hArs:=hst.sig.2
 have hle:=hst.le
 have hok:=hst.ok
 have HST:Hid (∀ ww,Same0 w2 ww→StAt ww b bs L R lv vs):=fun ww hk=>hst.same hk
 have HMO:Hid (∀ ww,Same0 w2 ww→ww.cell? ⟨m,0,none⟩=some (.slice ro L.length rc)∧Rl ww.heap.size ww (.slice ro L.length rc) L):=fun ww hk=>⟨cellAt (hmo.same hk).blk 0,(hmo.same hk).rl⟩
 have HTA:Hid (∀ ww,Same0 w2 ww→Arg ww to' T tc):=fun ww hk=>ht.same (K2.trans' hk)
 have HCC:Hid (∀ ww,Same0 w2 ww→Calls Tryz.prog 33 #[.slice ro L.length rc,.slice to' T.length tc] ww fun e w' => e=.returned (.bool (clsB L T))∧w' = ww):=fun ww hk=>rclosed_any (HMO.out ww hk).2 (HTA.out ww hk).at' htm
 clear hT hR C1 CS CA hst hmo k1 ht
 go_upto_region 5 with fail
 rcases first_err L R L.length with hall | ⟨K,z,hK,hdK,hzK,hall⟩
 ·have CM:=compile_ok (HST.out w2 (Kept.refl _ _)) hall
  obtain ⟨sm1,sm2⟩:=cmpS_small hArs hL64 hle hok L.length (Nat.le_refl _)
  have CW:∀ (a:Nat) (ha:a<T.length) (s:Nat) (hs:T[a]=(s:Int)) (t:Tr 2001),treeF L R s=.ok t→defB L (s:Int)=true→s<L.length→checkE L T=0→T.any (fun x=>decide (x<0))=false→codeF L true T (cmpS L R L.length).1.1 (cmpS L R L.length).1.2 (cmpS L R L.length).2 (s:Int) (a:Int)=goF L (subN L T a) (a:Int) 2001 t:=fun a ha s hs t htr hd hsl hc hv=>code_walk hall hgood hc hv ha hs htr hd hsl
  have CH:=cmp_has hall
  have CM2:Calls Tryz.prog 16 #[.pointer (some ⟨b,0,none⟩)] w2 fun e w' => ∃ io ic po pc eo ec ro' rc', e=.returned (.tuple #[.agg #[.slice io (cmpS L R L.length).1.1.length ic,.slice po (cmpS L R L.length).1.2.length pc,.slice eo (cmpS L R L.length).2.length ec,.slice ro' R.length rc'],.nilIface])∧Hid (InsAt w' io (cmpS L R L.length).1.1∧PthAt w' po (cmpS L R L.length).1.2∧IntsAt w' eo (cmpS L R L.length).2)∧Same0 w2 w' := by
   refine CM.mono ?_
   rintro e w' ⟨io,ic,po,pc,eo,ec,ro', rc', cs,rfl,h1,h2,_,_,h5⟩
   refine ⟨io,ic,po,pc,eo,ec,ro', rc', rfl,⟨h1.insAt,h1.pthAt,?_⟩,h5⟩
   obtain ⟨a1,a2,e,i1,_⟩:=h2.ints
   cases e
   exact i1
  have hIl:(cmpS L R L.length).1.1.length≤140737488355328:=by omega
  have hEs:(cmpS L R L.length).2.length≤L.length:=sm2
  generalize (cmpS L R L.length).1.1=I at *
  generalize (cmpS L R L.length).1.2=P at *
  generalize (cmpS L R L.length).2=E at *
  clear CM sm1 sm2
  go_upto_region 6 with (first | (go_at_call 16;refine CM2.mono ?_;rintro e w3 ⟨io,ic,po,pc,eo,ec,ro', rc', rfl,hcd,k3⟩))
  obtain ⟨w4,hw4⟩:∃ w4,w4=w3.alloc (.cells #[.slice io I.length ic,.slice po P.length pc,.slice eo E.length ec,.slice ro' R.length rc'] 45):=⟨_,rfl⟩
  have k4:Same0 w3 w4:=by rw [hw4];exact (Kept.refl _ _).alloc _
  have K4:Same0 w2 w4:=k3.trans' k4
  have HCD:Hid (∀ ww,Same0 w4 ww→(ww.cell? ⟨w3.heap.size,0,none⟩=some (.slice io I.length ic)∧ww.cell? ⟨w3.heap.size,1,none⟩=some (.slice po P.length pc)∧ww.cell? ⟨w3.heap.size,2,none⟩=some (.slice eo E.length ec)∧ww.cell? ⟨w3.heap.size,3,none⟩=some (.slice ro' R.length rc'))∧InsAt ww io I∧PthAt ww po P∧IntsAt ww eo E):=fun ww hk=>by
   have h1:=hk.at0 (show w4.heap[w3.heap.size]? = some (.cells #[.slice io I.length ic,.slice po P.length pc,.slice eo E.length ec,.slice ro' R.length rc'] 45 (0,0)) by rw [hw4];exact heap_alloc_new w3 _)
   obtain ⟨g1,g2,g3⟩:=hcd.out
   have kk:=k4.trans' hk
   exact ⟨⟨cellAt h1 0,cellAt h1 1,cellAt h1 2,cellAt h1 3⟩,g1.same kk,g2.same kk,g3.same kk⟩
  rw [← hw4]
  clear hw4 CM2 hcd k3 k4
  obtain ⟨c0, -⟩:=HMO.out w4 K4
  have CC:=HCC.out w4 K4
  cases hcl:clsB L T with
  | false=>
   rw [hcl] at CC
   have FIN:Hid (Same0 w w4):=K2.trans' K4
   clear CW CH HCD
   go_wp2_with (first | (go_at_call 33;refine CC.mono ?_;rintro e w5 ⟨rfl,rfl⟩))
   go_ret
   exact ⟨rfl,FIN.out.below⟩
  | true=>
   rw [hcl] at CC
   obtain ⟨hc,hcl0⟩:=cls_pos hcl
   have hTz:=checkE_zero.1 hc
   have hany:T.any (fun x=>decide (x<0))=false:=by
    rw [List.any_eq_false]
    intro x hx
    have:=hcl0 x hx
    simp;omega
   have CO:=over_any (HST.out w4 K4).sig (HTA.out w4 K4)
   rw [hcl] at CO
   go_upto_region 9 with (first | (go_at_call 33;refine CC.mono ?_;rintro e w5 ⟨rfl,rfl⟩))
   clear CC c0
   go_upto_region 10 with (first | (go_at_call 24;refine CO.mono ?_;rintro e w6 ⟨ho,hn,hc', go,gn,gc,rfl,hV,k6⟩))
   obtain ⟨w7,hw7⟩:∃ w7,w7=w6.alloc (.cells #[.slice ho hn hc', .slice go gn gc] 70):=⟨_,rfl⟩
   have k7:Same0 w6 w7:=by rw [hw7];exact (Kept.refl _ _).alloc _
   have k57:Same0 w5 w7:=k6.trans' k7
   have K7:Same0 w2 w7:=K4.trans' k57
   have HVW:Hid (∀ ww,Same0 w7 ww→(ww.cell? ⟨w6.heap.size,0,none⟩=some (.slice ho hn hc')∧ww.cell? ⟨w6.heap.size,1,none⟩=some (.slice go gn gc))∧VwAt w5.heap.size ww L true T (.agg #[.slice ho hn hc', .slice go gn gc])):=fun ww hk=>by
    have h1:=hk.at0 (show w7.heap[w6.heap.size]? = some (.cells #[.slice ho hn hc', .slice go gn gc] 70 (0,0)) by rw [hw7];exact heap_alloc_new w6 _)
    exact ⟨⟨cellAt h1 0,cellAt h1 1⟩,(hV.same k7).same hk⟩
   have HC7:Hid (∀ ww,Same0 w7 ww→(ww.cell? ⟨w3.heap.size,0,none⟩=some (.slice io I.length ic)∧ww.cell? ⟨w3.heap.size,1,none⟩=some (.slice po P.length pc)∧ww.cell? ⟨w3.heap.size,2,none⟩=some (.slice eo E.length ec)∧ww.cell? ⟨w3.heap.size,3,none⟩=some (.slice ro' R.length rc'))∧InsAt ww io I∧PthAt ww po P∧IntsAt ww eo E):=fun ww hk=>HCD.out ww (k57.trans' hk)
   rw [← hw7]
   clear hw7 CO hV k6 k7 HCD k57 hcl
   have hT2:=hTz.1
   go_wp2_with fail
   go_loopw [15] (fun i wr=>∃ a:Nat,a≤T.length∧i=.int .i64 (a:Int)∧Same0 w7 wr) (fun i _=>T.length-(intOf i).toNat)
   case atStart=>exact ⟨0,Nat.zero_le _,rfl,Kept.refl _ _⟩
   case round=>
    obtain ⟨a,ha,rfl,hw⟩:=hrel
    obtain ⟨wa,rfl⟩:∃ wa,wa=wr:=⟨_,rfl⟩
    by_cases hlt:a<T.length
    ·have i1:(0:Int)≤(a:Int):=by omega
     have i2:(a:Int)<(T.length:Int):=by omega
     have hl3:IntKind.i64.wrap ((a:Int)+1)=(a:Int)+1:=iwrap (by omega) (by omega)
     have KA:=K7.trans' hw
     obtain ⟨tb,toff,et,_,hcell⟩:=(HTA.out wa KA).at'.get hlt
     have hTm:T[a]∈T:=List.getElem_mem _
     obtain ⟨s,hs⟩:∃ s:Nat,T[a]=(s:Int):=⟨T[a].toNat,by have:=hcl0 _ hTm;omega⟩
     have hsl:s<L.length:=by have:=(badE_zero.1 hTz.2.1 _ hTm).1;omega
     have HS:Hid (∀ ww,Same0 wa ww→ww.cell? ⟨m,0,none⟩=some (.slice ro L.length rc)∧ww.cell? ⟨tb,toff+a,none⟩=some (.int .i64 (s:Int))∧(ww.cell? ⟨w3.heap.size,0,none⟩=some (.slice io I.length ic)∧ww.cell? ⟨w3.heap.size,1,none⟩=some (.slice po P.length pc)∧ww.cell? ⟨w3.heap.size,2,none⟩=some (.slice eo E.length ec)∧ww.cell? ⟨w3.heap.size,3,none⟩=some (.slice ro' R.length rc'))∧ww.cell? ⟨w6.heap.size,0,none⟩=some (.slice ho hn hc')∧ww.cell? ⟨w6.heap.size,1,none⟩=some (.slice go gn gc)):=fun ww hk=>by
      refine ⟨(HMO.out ww (KA.trans' hk)).1,?_,(HC7.out ww (hw.trans' hk)).1,(HVW.out ww (hw.trans' hk)).1⟩
      obtain ⟨tb', toff', et', _,hc'⟩:=(HTA.out ww (KA.trans' hk)).at'.get hlt
      rw [et] at et'
      cases et'
      rw [hc', hs]
     have HDF:Hid (∀ ww,Same0 wa ww→Calls Tryz.prog 34 #[.slice ro L.length rc,.int .i64 (s:Int)] ww fun e w' => e=.returned (.bool (defB L (s:Int)))∧Same0 ww w'):=fun ww hk=>by
      refine (rdef_any (HMO.out ww (KA.trans' hk)).2 (s:Int)).mono ?_
      rintro e w' ⟨rfl,rfl⟩
      exact ⟨rfl,Kept.refl _ _⟩
     obtain ⟨F,hF⟩:∃ F,F=codeF L true T I P E (s:Int) (a:Int):=⟨_,rfl⟩
     have HRN:∀ ww,Same0 wa ww→Calls Tryz.prog 25 #[.agg #[.slice io I.length ic,.slice po P.length pc,.slice eo E.length ec,.slice ro' R.length rc'],.int .i64 (s:Int),.iface 70 (.agg #[.slice ho hn hc', .slice go gn gc]),.int .i64 (a:Int)] ww (FndOut ww F):=fun ww hk=>by
      obtain ⟨_,g1,g2,g3⟩:=HC7.out ww (hw.trans' hk)
      rw [hF]
      exact run_any (HVW.out ww (hw.trans' hk)).2 g1 hIl g2 g3 ic pc ec ro' R.length rc' (s:Int) (a:Int)
     subst et
     have HOR:Hid ((defB L (s:Int)=false∧F=(0,0,[],0,90))∨(defB L (s:Int)=true∧F.2.2.2.2=0∧∃ t:Tr 2001,(∀ ww,Same0 wa ww→Calls Tryz.prog 35 #[.pointer (some ⟨b,0,none⟩),.int .i64 (s:Int)] ww fun e w' => ∃ tk tr tpo tpl tpc tko tkl tkc,e=.returned (.tuple #[.agg #[.int .i64 tk,.int .i64 tr,.slice tpo tpl tpc,.slice tko tkl tkc],.nilIface])∧Hid (CsB (fun b=>ww.heap.size≤b) w' 2001 (.agg #[.int .i64 tk,.int .i64 tr,.slice tpo tpl tpc,.slice tko tkl tkc]) t)∧Same0 ww w')∧∀ ww v,Same0 wa ww→CsB (fun b=>b<ww.heap.size) ww 2001 v t→Calls Tryz.prog 36 #[.pointer (some ⟨bs,0,none⟩),v,.slice (some ⟨tb,toff,none⟩) T.length tc,.int .i64 (a:Int)] ww (FdOut ww F))):=by
      by_cases hd:defB L (s:Int)=true
      ·obtain ⟨t,htr⟩:=hall s hsl hd
       have hcw:=CW a hlt s hs t htr hd hsl hc hany
       obtain ⟨F', hF', f1,_⟩:=root_fit hgood hc hany hlt hs htr
       have G:GL 2001 (rootR L R s) t:=grow_GL hArs hL64 2001 _ _ t (root_ok hArs hle hok hsl) htr
       refine .inr ⟨hd,by rw [hF,hcw,hF'];exact f1,t,fun ww hk=>?_,fun ww v hk hv=>?_⟩
       ·refine (build_any (HST.out ww (KA.trans' hk)) (s:Int)).mono ?_
        rintro e w' ⟨hk9,h9⟩
        rw [if_pos hd,Int.toNat_natCast,htr] at h9
        obtain ⟨v,rfl,hc9⟩:=h9
        obtain ⟨tk,tr,tpo,tpl,tpc,tko,tkl,tkc,rfl⟩:=hc9.shape
        exact ⟨tk,tr,tpo,tpl,tpc,tko,tkl,tkc,rfl,hc9,hk9⟩
       ·have h0:=walk_go (HST.out ww (KA.trans' hk)).sig hv (smk_smw9 G.sm) (HTA.out ww (KA.trans' hk)) hc hany hlt
        rw [hF,hcw]
        exact h0
      ·have hd' : defB L (s:Int)=false:=by simpa using hd
       refine .inl ⟨hd', ?_⟩
       rw [hF,codeF,if_neg (by rw [CH s hsl,hd'];simp)]
     clear hF
     obtain ⟨rk,rr,rp,rn,re⟩:=F
     have HRH:Hid (∀ ww,Same0 wa ww→Calls Tryz.prog 25 #[.agg #[.slice io I.length ic,.slice po P.length pc,.slice eo E.length ec,.slice ro' R.length rc'],.int .i64 (s:Int),.iface 70 (.agg #[.slice ho hn hc', .slice go gn gc]),.int .i64 (a:Int)] ww fun e w' => ∃ qo qc,e=.returned (.tuple #[.agg #[.int .i64 rk,.int .i64 rr,.slice qo rp.length qc,.int .i64 rn],.int .i64 re])∧Hid (Row ww.heap.size w' (.slice qo rp.length qc) rp)∧Same0 ww w'):=HRN
     have C0:wa.cell? ⟨m,0,none⟩=some (.slice ro L.length rc)∧wa.cell? ⟨tb,toff+a,none⟩=some (.int .i64 (s:Int)):=⟨(HS.out wa (Kept.refl _ _)).1,(HS.out wa (Kept.refl _ _)).2.1⟩
     have kd:Same0 wa wa.drew:=Kept.drew (Kept.refl _ _)
     generalize defB L (s:Int)=D at *
     clear HRN hcell CW CH hTm hs
     go_upto_region 13 with fail
     go_cut [16] from 66 to 126 (fun s16 wc=>s16=.bool D∧Same0 wa wc)
     case first=>
      go_region_held3 (fun w' => w'.cell? ⟨m,0,none⟩=some (.slice ro L.length rc)∧w'.cell? ⟨tb,toff+a,none⟩=some (.int .i64 (s:Int))) (first | exact C0 | exact cc1) (first
       | (go_at_call 34;refine (HDF.out _ kd).mono ?_;rintro e w10 ⟨rfl,k10⟩;have k910:=kd.trans' k10;have cc1:=And.intro (HS.out w10 k910).1 (HS.out w10 k910).2.1))
      all_goals
       go_wp2_with fail
       go_meet
       case rel=>exact ⟨rfl,k910⟩
     case rest=>
      obtain ⟨rfl,kc⟩:=hcut
      obtain ⟨wx,rfl⟩:∃ wx,wx=wc:=⟨_,rfl⟩
      clear C0 kd
      have hCx:=(HS.out wx kc).2
      have HSX:Hid (∀ ww,Same0 wx ww→ww.cell? ⟨tb,toff+a,none⟩=some (.int .i64 (s:Int))∧(ww.cell? ⟨w3.heap.size,0,none⟩=some (.slice io I.length ic)∧ww.cell? ⟨w3.heap.size,1,none⟩=some (.slice po P.length pc)∧ww.cell? ⟨w3.heap.size,2,none⟩=some (.slice eo E.length ec)∧ww.cell? ⟨w3.heap.size,3,none⟩=some (.slice ro' R.length rc'))∧ww.cell? ⟨w6.heap.size,0,none⟩=some (.slice ho hn hc')∧ww.cell? ⟨w6.heap.size,1,none⟩=some (.slice go gn gc)):=fun ww hk=>(HS.out ww (kc.trans' hk)).2
      have HRX:Hid (∀ ww,Same0 wx ww→Calls Tryz.prog 25 #[.agg #[.slice io I.length ic,.slice po P.length pc,.slice eo E.length ec,.slice ro' R.length rc'],.int .i64 (s:Int),.iface 70 (.agg #[.slice ho hn hc', .slice go gn gc]),.int .i64 (a:Int)] ww fun e w' => ∃ qo qc,e=.returned (.tuple #[.agg #[.int .i64 rk,.int .i64 rr,.slice qo rp.length qc,.int .i64 rn],.int .i64 re])∧Hid (Row ww.heap.size w' (.slice qo rp.length qc) rp)∧Same0 ww w'):=fun ww hk=>HRH.out ww (kc.trans' hk)
      go_upto_region 14 with fail
      go_cut [17,18] from 66 to 126 (fun s17 s18 wc=>∃ g qo qc,s17=.pointer (some ⟨g,0,none⟩)∧s18=.int .i64 re∧wc.heap[g]? = some (.cells #[.int .i64 rk,.int .i64 rr,.slice qo rp.length qc,.int .i64 rn] 73 (0,0))∧Hid (∃ base,Row base wc (.slice qo rp.length qc) rp)∧Same0 wx wc)
      case first=>
       have zx:wx.heap.size≤wx.heap.size:=Nat.le_refl _
       go_region_held3 (fun w' => w'.cell? ⟨tb,toff+a,none⟩=some (.int .i64 (s:Int))∧(w'.cell? ⟨w3.heap.size,0,none⟩=some (.slice io I.length ic)∧w'.cell? ⟨w3.heap.size,1,none⟩=some (.slice po P.length pc)∧w'.cell? ⟨w3.heap.size,2,none⟩=some (.slice eo E.length ec)∧w'.cell? ⟨w3.heap.size,3,none⟩=some (.slice ro' R.length rc'))∧w'.cell? ⟨w6.heap.size,0,none⟩=some (.slice ho hn hc')∧w'.cell? ⟨w6.heap.size,1,none⟩=some (.slice go gn gc)) (first | exact hCx | exact cc2 | exact HSX.out _ (by repeat (first | assumption | exact Kept.refl _ _ | refine Kept.alloc ?_ _ | refine Kept.drew ?_ | refine Same0.own ?_ (by omega) _))) (first
        | (go_at_call 25;refine (HRX.out _ (by repeat (first | assumption | exact Kept.refl _ _ | refine Kept.alloc ?_ _ | refine Kept.drew ?_ | refine Same0.own ?_ (by omega) _))).mono ?_;rintro e w11 ⟨qo,qc,rfl,hrow,k11⟩;have K11:Same0 wx w11:=Same0.trans' (by repeat (first | assumption | exact Kept.refl _ _ | refine Kept.alloc ?_ _ | refine Kept.drew ?_ | refine Same0.own ?_ (by omega) _)) k11;have cc2:=HSX.out _ K11;have z11:=K11.size;first | (have zb:w11.heap[wx.heap.size]? = some (.cells #[.int .i64 0,.int .i64 0,.slice none 0 0,.int .i64 0] 73 (0,0)):=k11.at0 (heap_alloc_new wx.drew _);obtain ⟨zc0,zc1,zc2,zc3,zf0,zf1,zf2,zf3⟩:=zf9 zb;have hrw9:Hid (∀ q,(Value.slice qo rp.length qc).ownBlock=some q→q≠wx.heap.size):=fun q e=>by have h9:=(World.ownsRow.lt hrow.out q e).1;simp at h9;omega) | skip))
       all_goals
        go_wp2_with fail
        go_meet
        case rel=>
         first
          | exact ⟨_,qo,qc,rfl,rfl,heap_alloc_new w11 _,⟨_,Kept.row (Kept.alloc (Kept.refl (fun _=>False) w11) _) hrow.out (fun _ _ f=>f)⟩,Kept.alloc K11 _⟩
          | exact ⟨_,qo,qc,rfl,rfl,setAt (setAt (setAt (setAt zb 0 _) 1 _) 2 _) 3 _,⟨_,Kept.row (Kept.setCell (p:=⟨wx.heap.size,3,none⟩) (Kept.setCell (p:=⟨wx.heap.size,2,none⟩) (Kept.setCell (p:=⟨wx.heap.size,1,none⟩) (Kept.setCell (p:=⟨wx.heap.size,0,none⟩) (Kept.refl (fun q=>q=wx.heap.size) w11) (fun _=>rfl) _) (fun _=>rfl) _) (fun _=>rfl) _) (fun _=>rfl) _) hrow.out (fun q e e2=>hrw9.out q e e2)⟩,Same0.own (Same0.own (Same0.own (Same0.own K11 (by omega) _) (by omega) _) (by omega) _) (by omega) _⟩
      case rest=>
       obtain ⟨g,qo,qc,rfl,rfl,hg,hrow,kc2⟩:=hcut
       obtain ⟨wy,rfl⟩:∃ wy,wy=wc:=⟨_,rfl⟩
       have KY:Same0 wa wy:=kc.trans' kc2
       have HTY:Hid (∀ ww,Same0 wy ww→ww.cell? ⟨tb,toff+a,none⟩=some (.int .i64 (s:Int))):=fun ww hk=>(HS.out ww (KY.trans' hk)).2.1
       have HGY:Hid (∀ ww,Same0 wy ww→ww.cell? ⟨g,0,none⟩=some (.int .i64 rk)∧ww.cell? ⟨g,1,none⟩=some (.int .i64 rr)∧ww.cell? ⟨g,2,none⟩=some (.slice qo rp.length qc)∧ww.cell? ⟨g,3,none⟩=some (.int .i64 rn)):=fun ww hk=>by
        have h1:=hk.at0 hg
        exact ⟨cellAt h1 0,cellAt h1 1,cellAt h1 2,cellAt h1 3⟩
       rcases HOR.out with ⟨hD,hFe⟩ | ⟨hD,hre,t,hBd,hWk⟩
       ·simp only [Prod.mk.injEq] at hFe
        obtain ⟨rfl,rfl,rfl,rfl,rfl⟩:=hFe
        subst hD
        have KN:Same0 w7 wy:=hw.trans' KY
        clear HOR HS HDF HRH HRX HSX HTY HGY hg hrow hCx HVW HC7 HMO HTA HST HCC
        go_wp2_with fail
        exact ⟨⟨a+1,by omega,by go_num,KN⟩,by simp [intOf];omega⟩
       ·simp only at hre
        subst hre hD
        have x0:=HTY.out wy (Kept.refl _ _)
        have C1:=hBd wy KY
        have HWK:Hid (∀ ww v,Same0 wa ww→CsB (fun b=>b<ww.heap.size) ww 2001 v t→Calls Tryz.prog 36 #[.pointer (some ⟨bs,0,none⟩),v,.slice (some ⟨tb,toff,none⟩) T.length tc,.int .i64 (a:Int)] ww fun e w' => ∃ po pc,e=.returned (.tuple #[.agg #[.int .i64 rk,.int .i64 rr,.slice po rp.length pc,.int .i64 rn],.int .i64 0])∧Hid (Row ww.heap.size w' (.slice po rp.length pc) rp)∧Same0 ww w'):=hWk
        have HRW:Hid (∀ ww,Same0 wy ww→IntsAt ww qo rp):=fun ww hk=>by
         obtain ⟨base,hr⟩:=hrow.out
         obtain ⟨a1,a2,e,i9,_⟩:=hr.ints
         cases e
         exact i9.same hk
        have hrm:rp.length≤maxLen:=by
         obtain ⟨base,hr⟩:=hrow.out
         rcases hr.2 with ⟨e,h0⟩ | ⟨g9,cap9,cur9,e,hb,hg9,h1,h2,h3,h4⟩
         ·omega
         ·omega
        have HRM:Hid (rp.length≤maxLen):=hrm
        clear HOR HS HDF HRH HRX HSX hg hrow hCx HVW HC7 HMO HTA HST HCC hBd hWk hrm
        go_upto_region 19 with (first | (go_at_call 35;refine C1.mono ?_;rintro e w12 ⟨tk,tr,tpo,tpl,tpc,tko,tkl,tkc,rfl,hcs,k12⟩))
        obtain ⟨w13,hw13⟩:∃ w13,w13=w12.alloc (.cells #[.int .i64 tk,.int .i64 tr,.slice tpo tpl tpc,.slice tko tkl tkc] 25):=⟨_,rfl⟩
        have k13:Same0 w12 w13:=by rw [hw13];exact (Kept.refl _ _).alloc _
        have b13:w13.heap[w12.heap.size]? = some (.cells #[.int .i64 tk,.int .i64 tr,.slice tpo tpl tpc,.slice tko tkl tkc] 25 (0,0)):=by rw [hw13];exact heap_alloc_new w12 _
        have HCS:CsB (fun b=>b<w13.heap.size) w13 2001 (.agg #[.int .i64 tk,.int .i64 tr,.slice tpo tpl tpc,.slice tko tkl tkc]) t:=CsB.mono (fun b hb _=>hb) (hcs.out.same k13)
        have Y13:Same0 wy w13:=k12.trans' k13
        rw [← hw13]
        have c0:=cellAt b13 0
        have c1:=cellAt b13 1
        have c2:=cellAt b13 2
        have c3:=cellAt b13 3
        simp only [List.getElem?_toArray,List.getElem?_cons_zero,List.getElem?_cons_succ] at c0 c1 c2 c3
        have C2:=HWK.out w13 _ (KY.trans' Y13) HCS
        clear hw13 hcs C1 k12 k13 HCS b13 HWK x0
        go_upto_region 20 with (first | (go_at_call 36;refine C2.mono ?_;rintro e w14 ⟨uo,uc,rfl,hrw,k14⟩))
        obtain ⟨w15,hw15⟩:∃ w15,w15=w14.alloc (.cells #[.int .i64 rk,.int .i64 rr,.slice uo rp.length uc,.int .i64 rn] 73):=⟨_,rfl⟩
        have k15:Same0 w14 w15:=by rw [hw15];exact (Kept.refl _ _).alloc _
        have b15:w15.heap[w14.heap.size]? = some (.cells #[.int .i64 rk,.int .i64 rr,.slice uo rp.length uc,.int .i64 rn] 73 (0,0)):=by rw [hw15];exact heap_alloc_new w14 _
        have Y15:Same0 wy w15:=(Y13.trans' k14).trans' k15
        have i15:IntsAt w15 uo rp:=by
         obtain ⟨a1,a2,e,i9,_⟩:=hrw.out.ints
         cases e
         exact i9.same k15
        rw [← hw15]
        obtain ⟨g0,g1,g2,g3⟩:=HGY.out w15 Y15
        have d0:=cellAt b15 0
        have d1:=cellAt b15 1
        have d2:=cellAt b15 2
        have d3:=cellAt b15 3
        simp only [List.getElem?_toArray,List.getElem?_cons_zero,List.getElem?_cons_succ] at d0 d1 d2 d3
        have C3:=fsame_any (k:=rk) (r:=rr) (nd:=rn) (pc:=qc) (pc' := uc) (HRW.out w15 Y15) i15 HRM.out
        have KN:Hid (∀ ww,Same0 w15 ww→Same0 w7 ww):=fun ww hk=>(hw.trans' KY).trans' (Y15.trans' hk)
        clear hw15 C2 c0 c1 c2 c3 hrw b15 i15 HRW HRM HGY HTY k14 k15
        go_wp2_with (first | (go_at_call 27;refine C3.mono ?_;rintro e w16 ⟨rfl,k16⟩))
        have KF:=KN.out w16 k16
        exact ⟨⟨a+1,by omega,by go_num,KF⟩,by simp [intOf];omega⟩
    ·have i2:¬ (a:Int)<(T.length:Int):=by omega
     have FIN:Hid (Same0 w wa):=(K2.trans' K7).trans' hw
     clear HTA HMO HST hgood hany hcl0 hTz hc CW CH HVW HC7 HCC
     go_wp2_with fail
     go_ret
     exact ⟨rfl,FIN.out.below⟩
 ·have CM:=compile_err (HST.out w2 (Kept.refl _ _)) hK hdK hzK hall
  go_upto_region 6 with (first | (go_at_call 16;refine CM.mono ?_;rintro e w3 ⟨q,rfl,k3⟩))
  obtain ⟨w4,hw4⟩:∃ w4,w4=w3.alloc (.cells #[.slice none 0 0,.slice none 0 0,.slice none 0 0,.slice none 0 0] 45):=⟨_,rfl⟩
  have k4:Same0 w3 w4:=by rw [hw4];exact (Kept.refl _ _).alloc _
  have K4:Same0 w2 w4:=k3.trans' k4
  have h4:w4.heap[w3.heap.size]? = some (.cells #[.slice none 0 0,.slice none 0 0,.slice none 0 0,.slice none 0 0] 45 (0,0)):=by rw [hw4];exact heap_alloc_new w3 _
  rw [← hw4]
  obtain ⟨c0, -⟩:=HMO.out w4 K4
  have CC:=HCC.out w4 K4
  have d0:=cellAt h4 0
  simp only [List.getElem?_toArray,List.getElem?_cons_zero] at d0
  have FIN:Hid (Same0 w w4):=K2.trans' K4
  clear hw4 CM hall hdK hzK hgood hArs hok HST HTA HMO HCC h4 k3 k4
  generalize clsB L T=cb at *
  go_wp2_with (first | (go_at_call 33;refine CC.mono ?_;rintro e w5 ⟨rfl,rfl⟩))
  go_ret
  exact ⟨rfl,FIN.out.below⟩
end Go.Proofs.YtdhiiicppcgkbaaGreat
