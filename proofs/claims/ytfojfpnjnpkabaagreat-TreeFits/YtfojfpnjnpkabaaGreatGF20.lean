import Derived.Test.YtfojfpnjnpkabaaGreatGF18
import Derived.Test.YtfojfpnjnpkabaaGreatGF06
import Derived.Test.YtfojfpnjnpkabaaGreatGF05
import Derived.Laws.AppendOwnNone
import Derived.Test.YtfojfpnjnpkabaaGreatGF15
import Derived.Test.YtfojfpnjnpkabaaGreatGF19
import Derived.Test.YtfojfpnjnpkabaaGreatGF17
import Derived.Deep.RegionLaw
import Derived.Deep.AppendLies
namespace Go.Proofs.YtfojfpnjnpkabaaGreat
set_option maxRecDepth 100000
set_option linter.unusedVariables false
open Go.RowKit
attribute [local go_sem ↓] Go.wp_at_zero Go.wp_at_succ
def FdOut (w:World) (R:Fd) (e:Ending) (w' : World):Prop:=∃ po pc,e=.returned (.tuple #[.agg #[.int .i64 R.1,.int .i64 R.2.1,.slice po R.2.2.1.length pc,.int .i64 R.2.2.2.1],.int .i64 R.2.2.2.2])∧Row w.heap.size w' (.slice po R.2.2.1.length pc) R.2.2.1∧Same0 w w'
theorem WAt.same {B:Nat→Prop} {b:Nat} {L:List Sym} {U:List Int} {a:Int} {R:Fd} {w w' : World} {N:Nat} (h:WAt B b L U a R w N) (hk:Same0 w w'):WAt B b L U a R w' N:=by
 obtain ⟨n,t,x0,x1,x2,x3,h1,h2,h3,h4,h5⟩:=h
 exact ⟨n,t,x0,x1,x2,x3,h1,hk.at0 h2,h3.same hk,h4,h5⟩
set_option maxHeartbeats 8000000 in
theorem walk_go {w:World} {bs:Nat} {L:List Sym} (hs:Sg w.heap.size w bs L) {n:Nat} {v:Value} {t:Tr n} (h:CsB (fun b=>b<w.heap.size) w n v t) (hsm:SmW n t) {tto:Option Addr} {tc:Nat} {T:List Int} (ht:Arg w tto T tc) (hc:checkE L T=0) (hv:T.any (fun x=>decide (x<0))=false) {a:Nat} (ha:a<T.length) :
  Calls Tryz.prog 15 #[.pointer (some ⟨bs,0,none⟩),v,.slice tto T.length tc,.int .i64 (a:Int)] w (FdOut w (goF L (subN L T a) a n t)):=by
 obtain ⟨k,r,po,pl,pc,ko,kl,kc,rfl⟩:=h.shape
 have hT:=checkE_zero.1 hc
 have hpz:placeE L T (a:Int)=0:=by unfold placeE;rw [if_neg (by simp [hc]),if_neg (by omega)]
 have hsub:checkE L (subN L T a)=0:=by
  refine checkE_zero.2 ⟨?_,?_,sub_need hT.2.2 ha⟩
  ·rw [sub_length hT.2.2 ha];have:=(endN_le hT.2.2 ha).2;omega
  ·refine badE_zero.2 (fun x hx=>badE_zero.1 hT.2.1 x ?_)
   unfold subN at hx
   exact List.mem_of_mem_take (List.mem_of_mem_drop hx)
 have hUT:=sub_need hT.2.2 ha
 have hUl:=checkE_zero.1 hsub
 obtain ⟨W1,hW1⟩:∃ W1,W1=(w.alloc (.cells #[.int .i64 k,.int .i64 r,.slice po pl pc,.slice ko kl kc] 35)).alloc (.cells #[.int .i64 0,.int .i64 0,.slice none 0 0,.int .i64 0] 53):=⟨_,rfl⟩
 have KW:Same0 w W1:=by rw [hW1];exact ((Kept.refl _ w).alloc _).alloc _
 have ez:w.heap.size+1<W1.heap.size:=by rw [hW1];simp
 have b0:W1.heap[w.heap.size]? = some (.cells #[.int .i64 k,.int .i64 r,.slice po pl pc,.slice ko kl kc] 35 (0,0)):=by rw [hW1];exact heap_alloc2_old _ _ _
 have SW:Hid (∀ ww,Kept (fun q=>q=w.heap.size) W1 ww→Same0 w ww):=fun ww hk=>Kept.trans KW hk (fun i hi e=>by omega)
 have RS:Hid (∀ ww,Kept (fun q=>q=w.heap.size) W1 ww→ww.heap[w.heap.size+1]? = some (.cells #[.int .i64 0,.int .i64 0,.slice none 0 0,.int .i64 0] 53 (0,0))):=fun ww hk=>hk.at (by rw [hW1];exact heap_al_al _ _ _) (fun e=>by omega)
 have RC:Hid (∀ ww,Kept (fun q=>q=w.heap.size) W1 ww→(ww.cell? ⟨w.heap.size+1,0,none⟩=some (.int .i64 0)∧ww.cell? ⟨w.heap.size+1,1,none⟩=some (.int .i64 0)∧ww.cell? ⟨w.heap.size+1,2,none⟩=some (.slice none 0 0)∧ww.cell? ⟨w.heap.size+1,3,none⟩=some (.int .i64 0))∧ww.frozen? ⟨w.heap.size+1,0,none⟩=false∧ww.frozen? ⟨w.heap.size+1,1,none⟩=false∧ww.frozen? ⟨w.heap.size+1,2,none⟩=false∧ww.frozen? ⟨w.heap.size+1,3,none⟩=false):=fun ww hk=>by
  have rs:=RS.out ww hk
  exact ⟨⟨cellAt rs 0,cellAt rs 1,cellAt rs 2,cellAt rs 3⟩,frozenAt rs 0,frozenAt rs 1,frozenAt rs 2,frozenAt rs 3⟩
 have PUT:Hid (∀ ww x0 x1 x2 x3,Kept (fun q=>q=w.heap.size) W1 ww→(((((ww.setCell ⟨w.heap.size+1,0,none⟩ x0).setCell ⟨w.heap.size+1,1,none⟩ x1).setCell ⟨w.heap.size+1,2,none⟩ x2).setCell ⟨w.heap.size+1,3,none⟩ x3)).cell? ⟨w.heap.size+1,0,none⟩=some x0∧(((((ww.setCell ⟨w.heap.size+1,0,none⟩ x0).setCell ⟨w.heap.size+1,1,none⟩ x1).setCell ⟨w.heap.size+1,2,none⟩ x2).setCell ⟨w.heap.size+1,3,none⟩ x3)).cell? ⟨w.heap.size+1,1,none⟩=some x1∧(((((ww.setCell ⟨w.heap.size+1,0,none⟩ x0).setCell ⟨w.heap.size+1,1,none⟩ x1).setCell ⟨w.heap.size+1,2,none⟩ x2).setCell ⟨w.heap.size+1,3,none⟩ x3)).cell? ⟨w.heap.size+1,2,none⟩=some x2∧(((((ww.setCell ⟨w.heap.size+1,0,none⟩ x0).setCell ⟨w.heap.size+1,1,none⟩ x1).setCell ⟨w.heap.size+1,2,none⟩ x2).setCell ⟨w.heap.size+1,3,none⟩ x3)).cell? ⟨w.heap.size+1,3,none⟩=some x3∧Kept (fun q=>q=w.heap.size+1) ww ((((ww.setCell ⟨w.heap.size+1,0,none⟩ x0).setCell ⟨w.heap.size+1,1,none⟩ x1).setCell ⟨w.heap.size+1,2,none⟩ x2).setCell ⟨w.heap.size+1,3,none⟩ x3)∧Same0 w ((((ww.setCell ⟨w.heap.size+1,0,none⟩ x0).setCell ⟨w.heap.size+1,1,none⟩ x1).setCell ⟨w.heap.size+1,2,none⟩ x2).setCell ⟨w.heap.size+1,3,none⟩ x3)):=by
  intro ww x0 x1 x2 x3 hk
  have rs:=RS.out ww hk
  have s3:=setAt (setAt (setAt (setAt rs 0 x0) 1 x1) 2 x2) 3 x3
  have k1:=Kept.setCell (p:=⟨w.heap.size+1,0,none⟩) (Kept.refl (fun q=>q=w.heap.size+1) ww) (fun _=>rfl) x0
  have k2:=Kept.setCell (p:=⟨w.heap.size+1,1,none⟩) k1 (fun _=>rfl) x1
  have k3:=Kept.setCell (p:=⟨w.heap.size+1,2,none⟩) k2 (fun _=>rfl) x2
  have k4:=Kept.setCell (p:=⟨w.heap.size+1,3,none⟩) k3 (fun _=>rfl) x3
  exact ⟨cellAt s3 0,cellAt s3 1,cellAt s3 2,cellAt s3 3,k4,Kept.trans (SW.out ww hk) k4 (fun i hi e=>by omega)⟩
 have C1:=check_any (cap:=tc) (sg_up (hs.same KW) KW.size) (ht.same KW).at' (by unfold maxLen;omega)
 rw [hc] at C1
 have C2:Hid (∀ ww,Same0 W1 ww→Calls Tryz.prog 44 #[.slice tto T.length tc,.func (.func 45) #[] #[]] ww fun e w' => e=.returned (.bool false)∧w' = ww):=fun ww hk=>by
  have:=containsf_var (sc:=tc) ((ht.same KW).same hk).at' (by unfold maxLen;omega)
  rw [hv] at this
  exact this
 have C3:Hid (∀ ww,Same0 W1 ww→Calls Tryz.prog 46 #[.pointer (some ⟨bs,0,none⟩),.slice tto T.length tc,.int .i64 (a:Int)] ww fun e w' => ∃ uo uc,e=.returned (.tuple #[.slice uo (subN L T a).length uc,.int .i64 0])∧Hid (IntsAt w' uo (subN L T a)∧∀ a,uo=some a→ww.heap.size≤a.block)∧Same0 ww w'):=fun ww hk=>by
  refine (sub_any (cap:=tc) (sg_up ((hs.same KW).same hk) (KW.trans' hk).size) ((ht.same KW).same hk).at' (by unfold maxLen;omega) ht.cap' (a:Int)).mono ?_
  rintro e w' ⟨v,rfl,hr,k⟩
  rw [subA,if_pos hpz] at hr
  simp only [Int.toNat_natCast] at hr
  obtain ⟨uo,uc,rfl,h1,_,h2⟩:=hr.ints
  exact ⟨uo,uc,by rw [hpz],⟨h1,fun a e=>(h2 a e).1⟩,k⟩
 have HS:Hid (∀ ww,Kept (fun q=>q=w.heap.size) W1 ww→Sg ww.heap.size ww bs L):=fun ww hk=>by
  have:=SW.out ww hk
  exact sg_up (hs.same this) this.size
 have hw0:WAt (fun b=>b<w.heap.size) w.heap.size L (subN L T a) a (goF L (subN L T a) a n t) W1 (mesT n t):=⟨n,t,_,_,_,_,rfl,b0,h.same KW,hsm,rfl⟩
 generalize goF L (subN L T a) a n t=R at *
 generalize subN L T a=U at *
 have HAL:Hid (a≤2000):=by have:=hT.1;show a≤2000;omega
 have HUT:Hid (IsT L U∧checkE L U=0∧U.length≤2000):=⟨hUT,hsub,by have:=hUl.1;omega⟩
 have HW0:Hid (∃ N,WAt (fun b=>b<w.heap.size) w.heap.size L U a R W1 N):=⟨_,hw0⟩
 clear hw0 b0 hsub hUl hUT hT hc hv hpz ht hs h hsm
 go_enter Tryz.func15,Tryz.ntmps15
 go_upto_region 1 with fail
 rw [← hW1]
 clear hW1
 go_upto_region 4 with (first | (go_at_call 43;refine C1.mono ?_;rintro e w2 ⟨rfl,k2⟩))
 have D2:=C2.out w2 k2
 go_upto_region 6 with (first | (go_at_call 44;refine D2.mono ?_;rintro e w3 ⟨rfl,rfl⟩))
 have D3:=C3.out w3 k2
 go_wp2_with (first | (go_at_call 46;refine D3.mono ?_;rintro e w4 ⟨uo,uc,rfl,hu,k4⟩))
 have k14:=k2.trans' k4
 obtain ⟨hu1,hu2⟩:=hu.out
 have HU:Hid (IntsAt w4 uo U):=hu1
 have z2:=k2.size
 have HU2:Hid (∀ a,uo=some a→w.heap.size+1<a.block):=fun a e=>by have:=hu2 a e;omega
 have HW4:Hid (∃ N,WAt (fun b=>b<w.heap.size) w.heap.size L U a R w4 N):=by obtain ⟨N,hN⟩:=HW0.out;exact ⟨N,hN.same k14⟩
 have KT:Hid (∀ ww w5,Kept (fun q=>q=w.heap.size) W1 ww→Same0 ww w5→Kept (fun q=>q=w.heap.size) W1 w5):=fun ww w5 h1 h2=>Kept.trans h1 h2.mono' (fun _ _ z=>z)
 clear hu hu1 hu2 HW0 C1 C2 C3 D2 D3 z2
 obtain ⟨leastD,HLD⟩:∃ f:(Nat→Prop)→Nat,Hid ((∀ P:Nat→Prop,(∃ n,P n)→P (f P))∧∀ (P:Nat→Prop) n,P n→f P≤n):=least_fun
 go_loopw [] (fun wr=>Hid (∃ N,WAt (fun b=>b<w.heap.size) w.heap.size L U a R wr N)∧Hid (IntsAt wr uo U)∧Kept (fun q=>q=w.heap.size) W1 wr) (fun wr=>leastD (WAt (fun b=>b<w.heap.size) w.heap.size L U a R wr))
 case atStart=>exact ⟨HW4,HU,k14.mono'⟩
 case round=>
  clear HW4 HU
  obtain ⟨hN,hu,kw⟩:=hrel
  obtain ⟨n,t,x0,x1,x2,x3,hm,hb,hcs,hsm,hg⟩:=HLD.out.1 _ hN.out
  have HM:Hid (leastD (WAt (fun b=>b<w.heap.size) w.heap.size L U a R wr)=mesT n t):=hm.symm
  clear hm hN
  cases n with
  | zero=>exact hcs.elim
  | succ n=>
   obtain ⟨k,r,p,l⟩:=t
   have HC:Hid (CsB (fun b=>b<w.heap.size) wr (n+1) (.agg #[x0,x1,x2,x3]) (k,r,p,l)):=hcs
   obtain ⟨po,pc,ko,kc,e,h2,h3,h4,h5,h6⟩:=hcs
   simp only [Value.agg.injEq,Array.mk.injEq,List.cons.injEq,and_true] at e
   obtain ⟨rfl,rfl,rfl,rfl⟩:=e
   obtain ⟨hl9,hsk⟩:=hsm
   have c0:=cellAt hb 0
   have c1:=cellAt hb 1
   have c2:=cellAt hb 2
   have c3:=cellAt hb 3
   have q0:=frozenAt hb 0
   have q1:=frozenAt hb 1
   have q2:=frozenAt hb 2
   have q3:=frozenAt hb 3
   simp only [List.getElem?_toArray,List.getElem?_cons_zero,List.getElem?_cons_succ] at c0 c1 c2 c3
   by_cases hk2:k=2
   ·subst hk2
    have D4:Calls Tryz.prog 47 #[.pointer (some ⟨bs,0,none⟩),.slice uo U.length uc,.slice po p.length pc] wr fun e w' => e=.returned (.tuple #[.int .i64 (match leads L U 0 p with | some q=>(q:Int) | none=>0),.int .i64 (match leads L U 0 p with | some _=>0 | none=>25)])∧Same0 wr w' := by
     have:=place_any (cap:=uc) (pcap:=pc) (HS.out wr kw) hu.out (by have:=HUT.out.2.2;unfold maxLen;omega) h2.at' (by have:=h2.size;unfold maxLen;omega)
     unfold leadA leadE at this
     rw [if_neg (by simp [HUT.out.2.1]),if_neg (by simp [HUT.out.2.1])] at this
     exact this
    cases hq:leads L U 0 p with
    | none=>
     rw [hq] at D4
     have HR:Hid (R=(0,0,[],0,25)):=by show _=_;rw [← hg,goF,if_pos rfl,hq]
     clear hg hq h6 h2 h3 hb HC hsk hu
     go_wp2_with (first | (go_at_call 47;refine D4.mono ?_;rintro e w5 ⟨rfl,k5⟩;obtain ⟨⟨r0,r1,r2,r3⟩,g0,g1,g2,g3⟩:=RC.out w5 (KT.out wr w5 kw k5)))
     obtain ⟨y0,y1,y2,y3,kk,ks⟩:=PUT.out w5 (.int .i64 0) (.int .i64 0) (.slice none 0 0) (.int .i64 0) (KT.out wr w5 kw k5)
     exact bodyPost_ret (v:=.tuple #[.agg #[.int .i64 0,.int .i64 0,.slice none 0 0,.int .i64 0],.int .i64 25]) (by simp [results,Tryz.results15,go_sem,y0,y1,y2,y3]) rfl (by rw [HR.out];exact ⟨none,0,rfl,World.ownsRow_nil _ _ _ _,ks⟩)
    | some q=>
     rw [hq] at D4
     have hql:q<U.length:=leads_lt HUT.out.1 p 0 (isT_pos HUT.out.1) q hq
     have hgd:U.getD q 0=U[q]:=by simp [hql]
     have i1:(0:Int)≤(q:Int):=by omega
     have i2:(q:Int)<(U.length:Int):=by omega
     have C5:Hid (∀ ww,Kept (fun q=>q=w.heap.size) W1 ww→Calls Tryz.prog 31 #[.pointer (some ⟨bs,0,none⟩),.int .i64 U[q]] ww fun e w' => e=.returned (.bool (defB L U[q]))∧Same0 ww w'):=fun ww hk=>tdef_any (HS.out ww hk) _
     obtain ⟨ub,uoff,rfl,hub,hcell⟩:=hu.out.get hql
     have HCL:Hid (∀ ww,Same0 wr ww→ww.cell? ⟨ub,uoff+q,none⟩=some (.int .i64 U[q])):=fun ww hk=>(hk.cell (p:=⟨ub,uoff+q,none⟩) hub (fun f=>f)).trans hcell
     have BXC:Hid (∀ ww,Same0 wr ww→(ww.cell? ⟨w.heap.size,0,none⟩=some (.int .i64 2)∧ww.cell? ⟨w.heap.size,1,none⟩=some (.int .i64 r)∧ww.cell? ⟨w.heap.size,2,none⟩=some (.slice po p.length pc)∧ww.cell? ⟨w.heap.size,3,none⟩=some (.slice ko l.length kc))∧ww.frozen? ⟨w.heap.size,0,none⟩=false∧ww.frozen? ⟨w.heap.size,1,none⟩=false∧ww.frozen? ⟨w.heap.size,2,none⟩=false∧ww.frozen? ⟨w.heap.size,3,none⟩=false):=fun ww hk=>by
      have h1:=hk.at0 hb
      exact ⟨⟨cellAt h1 0,cellAt h1 1,cellAt h1 2,cellAt h1 3⟩,frozenAt h1 0,frozenAt h1 1,frozenAt h1 2,frozenAt h1 3⟩
     cases hd:defB L U[q] with
     | true=>
      rw [hd] at C5
      have HR:Hid (R=(3,0,p,(a:Int)+q,0)):=by show _=_;rw [← hg,goF,if_pos rfl,hq];simp only [hgd,hd,if_true]
      have C6:Hid (∀ ww,Same0 wr ww→Calls Tryz.prog 48 #[.slice po p.length pc] ww fun e w' => ∃ co cc,e=.returned (.slice co p.length cc)∧Hid (Row ww.heap.size w' (.slice co p.length cc) p)∧Same0 ww w'):=fun ww hk=>by
       refine (cloneI_any (h2.same hk)).mono ?_
       rintro e w' ⟨v,rfl,hr,k⟩
       obtain ⟨co,cc,rfl⟩:=row_shape hr
       exact ⟨co,cc,rfl,hr,k⟩
      have ew:IntKind.i64.wrap ((a:Int)+(q:Int))=(a:Int)+(q:Int):=by have:=HAL.out;have:=HUT.out.2.2;exact iwrap (by omega) (by omega)
      have ROWF:Hid (∀ w6 w7 ww co cc,Same0 wr w6→Row w6.heap.size w7 (.slice co p.length cc) p→Kept (fun q=>q=w.heap.size+1) w7 ww→Row w.heap.size ww (.slice co p.length cc) p):=fun w6 w7 ww co cc k6 r7 kk=>by
       have z6:=k6.size
       have z5:=kw.size
       refine row_mono (kk.row r7 (fun k e f=>?_)) (by omega)
       obtain ⟨o1,o2,e1,_,_,o3⟩:=Row.ints r7
       cases e1
       cases co with
       | none=>simp [Value.ownBlock] at e
       | some a=>simp only [Value.ownBlock,Option.some.injEq] at e;have:=(o3 a rfl).1;omega
      clear hg hq h6 h2 h3 hb HC hsk hu hd hcell
      go_upto_region 13 with (first | (go_at_call 47;refine D4.mono ?_;rintro e w5 ⟨rfl,k5⟩))
      have u5:=HCL.out w5 k5
      have D5:=C5.out w5 (KT.out wr w5 kw k5)
      go_upto_region 14 with (first | (go_at_call 31;refine D5.mono ?_;rintro e w6 ⟨rfl,k6⟩))
      have k16:=k5.trans' k6
      obtain ⟨⟨d0,d1,d2,d3⟩,_⟩:=BXC.out w6 k16
      have D6:=C6.out w6 k16
      go_wp2_with (first | (go_at_call 48;refine D6.mono ?_;rintro e w7 ⟨co,cc,rfl,hcl,k7⟩;obtain ⟨⟨r0,r1,r2,r3⟩,f0,f1,f2,f3⟩:=RC.out w7 (KT.out wr w7 kw (k16.trans' k7))))
      obtain ⟨y0,y1,y2,y3,kk,ks⟩:=PUT.out w7 (.int .i64 3) (.int .i64 0) (.slice co p.length cc) (.int .i64 ((a:Int)+(q:Int))) (KT.out wr w7 kw (k16.trans' k7))
      exact bodyPost_ret (v:=.tuple #[.agg #[.int .i64 3,.int .i64 0,.slice co p.length cc,.int .i64 ((a:Int)+(q:Int))],.int .i64 0]) (by simp [results,Tryz.results15,go_sem,y0,y1,y2,y3]) rfl (by rw [HR.out];exact ⟨co,cc,rfl,ROWF.out w6 w7 _ co cc k16 hcl.out kk,ks⟩)
     | false=>
      rw [hd] at C5
      have HR:Hid (R=(match kidOf U[q] l with | none=>(2,0,[],0,0) | some t=>goF L U a n t)):=by show _=_;rw [← hg,goF,if_pos rfl,hq];simp only [hgd,hd,if_false,Bool.false_eq_true];cases kidOf U[q] l <;> rfl
      have FO:Hid (∀ ww,Same0 wr ww→Calls Tryz.prog 49 #[.agg #[.int .i64 2,.int .i64 r,.slice po p.length pc,.slice ko l.length kc],.int .i64 U[q]] ww fun e w' => ∃ z0 z1 zo zl zc yo yl yc,e=.returned (.agg #[.int .i64 z0,.int .i64 z1,.slice zo zl zc,.slice yo yl yc])∧Same0 ww w' ∧ Hid (match kidOf U[q] l with | some t=>CsB (fun b=>b<w.heap.size) w' n (.agg #[.int .i64 z0,.int .i64 z1,.slice zo zl zc,.slice yo yl yc]) t | none=>Value.agg #[.int .i64 z0,.int .i64 z1,.slice zo zl zc,.slice yo yl yc]=failV)):=fun ww hk=>(following_any (HC.out.same hk) hl9 U[q]).mono (fun e w' ⟨x0,x1,x2,x3,f1,f2,f3⟩=>by
       cases hkd:kidOf U[q] l with
       | none=>
        rw [hkd] at f3
        exact ⟨3,0,none,0,0,none,0,0,by rw [f1,f3],f2,rfl⟩
       | some t=>
        rw [hkd] at f3
        obtain ⟨z0,z1,zo,zl,zc,yo,yl,yc,ez⟩:=f3.shape
        exact ⟨z0,z1,zo,zl,zc,yo,yl,yc,by rw [f1,ez],f2,by rw [ez] at f3;exact f3⟩)
      have FINZ:Hid (∀ w7 z0 z1 zo zl zc yo yl yc,Same0 wr w7→Hid (match kidOf U[q] l with | some t=>CsB (fun b=>b<w.heap.size) w7 n (.agg #[.int .i64 z0,.int .i64 z1,.slice zo zl zc,.slice yo yl yc]) t | none=>Value.agg #[.int .i64 z0,.int .i64 z1,.slice zo zl zc,.slice yo yl yc]=failV)→(Hid (∃ N,WAt (fun b=>b<w.heap.size) w.heap.size L U a R ((((w7.setCell ⟨w.heap.size,0,none⟩ (.int .i64 z0)).setCell ⟨w.heap.size,1,none⟩ (.int .i64 z1)).setCell ⟨w.heap.size,2,none⟩ (.slice zo zl zc)).setCell ⟨w.heap.size,3,none⟩ (.slice yo yl yc)) N)∧Hid (IntsAt ((((w7.setCell ⟨w.heap.size,0,none⟩ (.int .i64 z0)).setCell ⟨w.heap.size,1,none⟩ (.int .i64 z1)).setCell ⟨w.heap.size,2,none⟩ (.slice zo zl zc)).setCell ⟨w.heap.size,3,none⟩ (.slice yo yl yc)) (some ⟨ub,uoff,none⟩) U)∧Kept (fun q=>q=w.heap.size) W1 ((((w7.setCell ⟨w.heap.size,0,none⟩ (.int .i64 z0)).setCell ⟨w.heap.size,1,none⟩ (.int .i64 z1)).setCell ⟨w.heap.size,2,none⟩ (.slice zo zl zc)).setCell ⟨w.heap.size,3,none⟩ (.slice yo yl yc)))∧leastD (WAt (fun b=>b<w.heap.size) w.heap.size L U a R ((((w7.setCell ⟨w.heap.size,0,none⟩ (.int .i64 z0)).setCell ⟨w.heap.size,1,none⟩ (.int .i64 z1)).setCell ⟨w.heap.size,2,none⟩ (.slice zo zl zc)).setCell ⟨w.heap.size,3,none⟩ (.slice yo yl yc)))<leastD (WAt (fun b=>b<w.heap.size) w.heap.size L U a R wr)):=by
       intro w7 z0 z1 zo zl zc yo yl yc hk hz
       have hz:=hz.out
       have s3:=setAt (setAt (setAt (setAt (hk.at0 hb) 0 (.int .i64 z0)) 1 (.int .i64 z1)) 2 (.slice zo zl zc)) 3 (.slice yo yl yc)
       have k1:=Kept.setCell (p:=⟨w.heap.size,0,none⟩) (Kept.refl (fun q=>q=w.heap.size) w7) (fun _=>rfl) (.int .i64 z0)
       have k2:=Kept.setCell (p:=⟨w.heap.size,1,none⟩) k1 (fun _=>rfl) (.int .i64 z1)
       have k3:=Kept.setCell (p:=⟨w.heap.size,2,none⟩) k2 (fun _=>rfl) (.slice zo zl zc)
       have k4:=Kept.setCell (p:=⟨w.heap.size,3,none⟩) k3 (fun _=>rfl) (.slice yo yl yc)
       have hM:leastD (WAt (fun b=>b<w.heap.size) w.heap.size L U a R wr)=2 * (n+1)+1:=HM.out.trans (by simp [mesT])
       have hI:IntsAt ((((w7.setCell ⟨w.heap.size,0,none⟩ (.int .i64 z0)).setCell ⟨w.heap.size,1,none⟩ (.int .i64 z1)).setCell ⟨w.heap.size,2,none⟩ (.slice zo zl zc)).setCell ⟨w.heap.size,3,none⟩ (.slice yo yl yc)) (some ⟨ub,uoff,none⟩) U:=(hu.out.same hk).kept k4 (fun a e f=>by have:=HU2.out a e;omega)
       have hR:=HR.out
       obtain ⟨N,hN,hlt⟩:∃ N,WAt (fun b=>b<w.heap.size) w.heap.size L U a R ((((w7.setCell ⟨w.heap.size,0,none⟩ (.int .i64 z0)).setCell ⟨w.heap.size,1,none⟩ (.int .i64 z1)).setCell ⟨w.heap.size,2,none⟩ (.slice zo zl zc)).setCell ⟨w.heap.size,3,none⟩ (.slice yo yl yc)) N∧N<2 * (n+1)+1:=by
        cases hkd:kidOf U[q] l with
        | none=>
         rw [hkd] at hz hR
         simp only [failV,Value.agg.injEq,Array.mk.injEq,List.cons.injEq,and_true,Value.int.injEq,Value.slice.injEq,true_and] at hz
         obtain ⟨rfl,rfl,⟨rfl,rfl,rfl⟩,rfl,rfl,rfl⟩:=hz
         exact ⟨2 * (n+1),⟨n+1,((3,0,[],[]):Int × Int × List Int × List (Int × Tr n)),_,_,_,_,by simp [mesT],s3,⟨none,0,none,0,rfl,⟨.inl rfl,Nat.le_refl _,fun _=>⟨rfl,rfl⟩,by simp⟩,.inl rfl,fun _=>rfl,Nat.le_refl _,.inl rfl⟩,⟨by simp,fun i h=>by simp at h⟩,by rw [hR];simp [goF]⟩,by omega⟩
        | some t' =>
         rw [hkd] at hz hR
         obtain ⟨i,hi,ei⟩:=kidOf_mem hkd
         have h9:=mesT_le n t'
         exact ⟨mesT n t', ⟨n,t', _,_,_,_,rfl,s3,CsB.kept k4 (fun b q f=>by omega) hz,by rw [← ei];exact hsk i hi,hR.symm⟩,by omega⟩
       refine ⟨⟨⟨N,hN⟩,hI,KT.out wr _ kw hk |>.trans k4 (fun _ _ z=>z)⟩,?_⟩
       rw [hM]
       exact Nat.lt_of_le_of_lt (HLD.out.2 _ _ hN) hlt
      clear hg hq h6 h2 h3 hb HC hu hd hcell
      go_upto_region 13 with (first | (go_at_call 47;refine D4.mono ?_;rintro e w5 ⟨rfl,k5⟩))
      have u5:=HCL.out w5 k5
      have D5:=C5.out w5 (KT.out wr w5 kw k5)
      go_upto_region 15 with (first | (go_at_call 31;refine D5.mono ?_;rintro e w6 ⟨rfl,k6⟩))
      have k16:=k5.trans' k6
      clear u5 c0 c1 c2 c3 q0 q1 q2 q3
      have u6:=HCL.out w6 k16
      obtain ⟨⟨d0,d1,d2,d3⟩,_⟩:=BXC.out w6 k16
      go_region_with (first | (go_at_call 49;refine (FO.out _ (by first | exact k16 | exact Kept.drewN k16 1)).mono ?_;rintro e w7 ⟨z0,z1,zo,zl,zc,yo,yl,yc,rfl,k7,hz⟩;obtain ⟨⟨v0,v1,v2,v3⟩,w0,w1,w2', w3'⟩:=BXC.out w7 (by first | exact k16.trans' k7 | exact Kept.trans (Kept.drewN k16 1) k7 (fun _ _ z=>z))))
      all_goals (go_wp2_with fail)
      all_goals exact FINZ.out w7 z0 z1 zo zl zc yo yl yc (by first | exact k16.trans' k7 | exact Kept.trans (Kept.drewN k16 1) k7 (fun _ _ z=>z)) hz
   ·have hke:(k == 2)=false:=by simpa using hk2
    by_cases hk1:k=1
    ·subst hk1
     have HR:Hid (R=(1,r,[],0,0)):=by show _=_;rw [← hg,goF,if_neg (by omega),if_pos rfl]
     obtain ⟨⟨r0,r1,r2,r3⟩,g0,g1,g2,g3⟩:=RC.out wr kw
     obtain ⟨y0,y1,y2,y3,kk,ks⟩:=PUT.out wr (.int .i64 1) (.int .i64 r) (.slice none 0 0) (.int .i64 0) kw
     have FIN:Hid (Same0 w _):=ks
     clear hg h6 h2 h3 hb HC hsk hu kk ks
     go_wp2_with fail
     exact bodyPost_ret (v:=.tuple #[.agg #[.int .i64 1,.int .i64 r,.slice none 0 0,.int .i64 0],.int .i64 0]) (by simp [results,Tryz.results15,go_sem,y0,y1,y2,y3]) rfl (by rw [HR.out];exact ⟨none,0,rfl,World.ownsRow_nil _ _ _ _,FIN.out⟩)
    ·have hke1:(k == 1)=false:=by simpa using hk1
     have HR:Hid (R=(2,0,[],0,0)):=by show _=_;rw [← hg,goF,if_neg hk2,if_neg hk1]
     obtain ⟨⟨r0,r1,r2,r3⟩,g0,g1,g2,g3⟩:=RC.out wr kw
     obtain ⟨y0,y1,y2,y3,kk,ks⟩:=PUT.out wr (.int .i64 2) (.int .i64 0) (.slice none 0 0) (.int .i64 0) kw
     have FIN:Hid (Same0 w _):=ks
     clear hg h6 h2 h3 hb HC hsk hu kk ks
     go_wp2_with fail
     exact bodyPost_ret (v:=.tuple #[.agg #[.int .i64 2,.int .i64 0,.slice none 0 0,.int .i64 0],.int .i64 0]) (by simp [results,Tryz.results15,go_sem,y0,y1,y2,y3]) rfl (by rw [HR.out];exact ⟨none,0,rfl,World.ownsRow_nil _ _ _ _,FIN.out⟩)
end Go.Proofs.YtfojfpnjnpkabaaGreat
namespace Go.Proofs.YtfojfpnjnpkabaaGreat
set_option linter.unusedVariables false
open Go.RowKit
attribute [local go_sem ↓] Go.wp_at_zero Go.wp_at_succ
theorem row_take {w:World} {base g n cap size m:Nat} {e:TypeId} {xs:List Value} (h:w.ownsRow base e size (.slice (some ⟨g,0,none⟩) n cap) n xs) (hm:m≤n):w.ownsRow base e size (.slice (some ⟨g,0,none⟩) m cap) m (xs.take (m * size)):=by
 have hl:=h.1
 have hmn:m * size≤n * size:=Nat.mul_le_mul_right _ hm
 refine ⟨by rw [List.length_take,hl];omega,?_⟩
 rcases h.2 with ⟨e1,_⟩ | ⟨g', cap', cur,hv,hb,hg,h1,h2,h3,h4⟩
 ·cases e1
 ·simp only [Value.slice.injEq,Option.some.injEq,Addr.mk.injEq,and_true,true_and] at hv
  obtain ⟨rfl,rfl⟩:=hv
  exact .inr ⟨g,cap,cur,rfl,hb,hg,by omega,h2,h3,by rw [← h4,List.take_take,Nat.min_eq_left hmn]⟩
structure Sought (w wr:World) (ov:Value) (ao:Option Addr) (args:List Int) (out:List Int):Prop where
 row:Row w.heap.size wr ov out
 at' : IntsAt wr ao args
 ne:∀ a,ao=some a→ov.ownBlock≠some a.block
 lt:∀ a,ao=some a→a.block<wr.heap.size
 s:Same0 w wr
end Go.Proofs.YtfojfpnjnpkabaaGreat
namespace Go.Proofs.YtfojfpnjnpkabaaGreat
set_option maxRecDepth 100000
set_option linter.unusedVariables false
open Go.RowKit
attribute [local go_sem ↓] Go.wp_at_zero Go.wp_at_succ
def rulesF:(n:Nat)→Tr n→List Int
 | 0,_=>[]
 | n+1,(k,r,p,l)=>if k=1 then [r] else if k=2 then l.flatMap (fun x=>rulesF n x.2) else []
def SmK:(n:Nat)→Tr n→Prop
 | 0,_=>True
 | n+1,(k,r,p,l)=>l.length≤1000000000∧∀ i (h:i<l.length),SmK n l[i].2
structure RAt (w:World) (lb base:Nat) (lv:Value) (out:List Int):Prop where
 blk:w.heap[lb]? = some (.cells #[lv] 32 (0,0))
 row:Row base w lv out
abbrev T3:=Nat × Nat × Nat
def add3 (a b:T3):T3:=(a.1+b.1,a.2.1+b.2.1,a.2.2+b.2.2)
def sum3 {α:Type} (f:α→T3):List α→T3
 | []=>(0,0,0)
 | x :: r=>add3 (f x) (sum3 f r)
theorem sum3_append {α:Type} (f:α→T3):∀ (a b:List α),sum3 f (a++b)=add3 (sum3 f a) (sum3 f b)
 | [],b=>by simp [sum3,add3]
 | x :: r,b=>by
  rw [List.cons_append,sum3,sum3,sum3_append f r b]
  simp only [add3,Nat.add_assoc]
def kind3 (k:Int):T3:=if k=1 then (1,0,0) else if k=2 then (0,1,0) else if k=3 then (0,0,1) else (0,0,0)
def szT:(n:Nat)→Tr n→T3
 | 0,_=>(0,0,0)
 | n+1,(k,r,p,l)=>add3 (kind3 k) (if k=2 then sum3 (fun x=>szT n x.2) l else (0,0,0))
structure SAt (w:World) (x y z:Nat) (a:T3):Prop where
 bx:w.heap[x]? = some (.cells #[.int .i64 (a.1:Int)] 3 (0,0))
 by' : w.heap[y]? = some (.cells #[.int .i64 (a.2.1:Int)] 3 (0,0))
 bz:w.heap[z]? = some (.cells #[.int .i64 (a.2.2:Int)] 3 (0,0))
 xy:x≠y
 xz:x≠z
 yz:y≠z
end Go.Proofs.YtfojfpnjnpkabaaGreat
namespace Go.Proofs.YtfojfpnjnpkabaaGreat
set_option maxRecDepth 100000
set_option linter.unusedVariables false
structure GL (n:Nat) (R:List Rw) (t:Tr n):Prop where
 len:(rulesF n t).length=R.length
 mem:∀ x∈R,x.1∈rulesF n t
 fl:(szT n t).2.2=if R.length=0 then 1 else 0
 br:(szT n t).2.1≤n * R.length
 lv:(szT n t).1=R.length
 b0:(szT n t).2.1=0→R.length≤1
 sm:SmK n t
def cntR (R:List Rw) (c:Nat) (k:Nat):Nat:=(R.filter (fun x=>decide (numR x c<(k:Int)))).length
theorem cntR_succ {R:List Rw} {c k:Nat} (h:∀ x∈R,0≤numR x c):cntR R c (k+1)=cntR R c k+(havR R c (k:Int)).length:=by
 unfold cntR havR
 induction R with
 | nil=>rfl
 | cons x r ih=>
  have h0:=ih (fun y hy=>h y (List.mem_cons_of_mem _ hy))
  have hx:=h x (List.mem_cons_self ..)
  by_cases h1:numR x c<(k:Int)
  ·have h2:numR x c<((k+1:Nat):Int):=by omega
   have h3:¬ numR x c=(k:Int):=by omega
   simp only [List.filter_cons,h1,h2,h3,decide_true,decide_false,if_true,Bool.false_eq_true,if_false,List.length_cons]
   omega
  ·by_cases h3:numR x c=(k:Int)
   ·have h2:numR x c<((k+1:Nat):Int):=by omega
    simp only [List.filter_cons,h3,decide_true,if_true,List.length_cons]
    have h4:((k:Int)<((k+1:Nat):Int)):=by omega
    simp only [h4,decide_true,if_true,List.length_cons,Int.lt_irrefl,decide_false,Bool.false_eq_true,if_false]
    omega
   ·have h2:¬ numR x c<((k+1:Nat):Int):=by omega
    simp only [List.filter_cons,h1,h2,h3,decide_false,Bool.false_eq_true,if_false]
    exact h0
structure KL (n:Nat) (R:List Rw) (c k:Nat) (l:List (Int × Tr n)):Prop where
 len:(l.flatMap (fun x=>rulesF n x.2)).length=cntR R c k
 mem:∀ x∈R,numR x c<(k:Int)→x.1∈l.flatMap (fun x=>rulesF n x.2)
 fl:(sum3 (fun x=>szT n x.2) l).2.2=0
 br:(sum3 (fun x=>szT n x.2) l).2.1≤n * cntR R c k
 lv:(sum3 (fun x=>szT n x.2) l).1=cntR R c k
 le:l.length≤k
 sm:∀ i (h:i<l.length),SmK n l[i].2
theorem kids_KL {L:List Sym} {n:Nat} {P:List (List Int)} {R:List Rw} {c:Nat} (h0:∀ x∈R,0≤numR x c) (IH:∀ s,s<L.length→havR R c (s:Int)≠[]→∀ t,growF L n (kidP L P c s) ((havR R c (s:Int)).map (kidX L c))=.ok t→GL n ((havR R c (s:Int)).map (kidX L c)) t):∀ k,k≤L.length→∀ l,KidsF L n P R c k=.ok l→KL n R c k l
 | 0,_,l,h=>by
  cases h
  have e:cntR R c 0=0:=by
   unfold cntR
   rw [List.length_eq_zero_iff,List.filter_eq_nil_iff]
   intro x hx
   have:=h0 x hx
   simp;omega
  exact ⟨by rw [e];rfl,fun x hx hn=>by have:=h0 x hx;omega,rfl,by simp [sum3],by rw [e];rfl,Nat.le_refl _,fun i hi=>absurd hi (by simp)⟩
 | k+1,hk,l,h=>by
  have hsucc:=cntR_succ (c:=c) (k:=k) h0
  cases hm:KidsF L n P R c k with
  | error e=>rw [KidsF_err hm (Nat.le_succ k)] at h;cases h
  | ok m=>
   have K:=kids_KL h0 IH k (by omega) m hm
   have hm' := hm
   unfold KidsF at hm' h
   rw [kidsN,hm'] at h
   simp only at h
   by_cases hh:0<(havR R c (k:Int)).length
   ·simp only [hh,decide_true,if_true] at h
    cases hg:growF L n (kidP L P c k) ((havR R c (k:Int)).map (kidX L c)) with
    | error e=>rw [hg] at h;cases h
    | ok t=>
     rw [hg] at h
     cases h
     have G:=IH k (by omega) (fun e=>by rw [e] at hh;simp at hh) t hg
     have hGl:=G.len
     rw [List.length_map] at hGl
     have hGv:=G.lv
     rw [List.length_map] at hGv
     have hGb:=G.br
     rw [List.length_map] at hGb
     have hGf:=G.fl
     rw [List.length_map,if_neg (by omega)] at hGf
     have efl:(m ++ [((k:Int),t)]).flatMap (fun x=>rulesF n x.2)=m.flatMap (fun x=>rulesF n x.2)++rulesF n t:=by simp
     have es:sum3 (fun x:Int × Tr n=>szT n x.2) (m ++ [((k:Int),t)])=add3 (sum3 (fun x=>szT n x.2) m) (szT n t):=by rw [sum3_append];simp [sum3,add3]
     refine ⟨?_,fun x hx hn=>?_,?_,?_,?_,?_,fun i hi=>?_⟩
     ·rw [efl,List.length_append,K.len,hGl,hsucc]
     ·rw [efl]
      by_cases hlt:numR x c<(k:Int)
      ·exact List.mem_append_left _ (K.mem x hx hlt)
      ·refine List.mem_append_right _ ?_
       have hx2:x∈havR R c (k:Int):=by
        unfold havR
        rw [List.mem_filter]
        exact ⟨hx,by simp;omega⟩
       exact G.mem (kidX L c x) (List.mem_map.2 ⟨x,hx2,rfl⟩)
     ·rw [es];simp only [add3];rw [K.fl,hGf]
     ·rw [es];simp only [add3];have:=K.br;rw [hsucc,Nat.mul_add];omega
     ·rw [es];simp only [add3];rw [K.lv,hGv,hsucc]
     ·have:=K.le;simp;omega
     ·by_cases hi2:i<m.length
      ·rw [List.getElem_append_left hi2];exact K.sm i hi2
      ·obtain rfl:i=m.length:=by simp at hi;omega
       simpa using G.sm
   ·simp only [hh,decide_false,Bool.false_eq_true,if_false] at h
    cases h
    have hz:(havR R c (k:Int)).length=0:=by omega
    rw [hz,Nat.add_zero] at hsucc
    refine ⟨by rw [hsucc];exact K.len,fun x hx hn=>?_,K.fl,by rw [hsucc];exact K.br,by rw [hsucc];exact K.lv,by have:=K.le;omega,K.sm⟩
    refine K.mem x hx ?_
    by_cases e:numR x c=(k:Int)
    ·have hx2:x∈havR R c (k:Int):=by
      unfold havR
      rw [List.mem_filter]
      exact ⟨hx,by simp [e]⟩
     rw [List.eq_nil_of_length_eq_zero hz] at hx2
     simp at hx2
    ·omega
theorem grow_GL {L:List Sym} (hA:Ars L) (hL:L.length≤64):∀ (n:Nat) (P:List (List Int)) (R:List Rw) (t:Tr n),NdOk L n P R→growF L n P R=.ok t→GL n R t
 | 0,P,R,t,h,_=>absurd h.pos (Nat.lt_irrefl 0)
 | n+1,P,R,t,h,hg=>by
  by_cases h0:R.length=0
  ·rw [growF_zero h0] at hg
   cases hg
   refine ⟨by simp [rulesF,h0],fun x hx=>?_,by simp [szT,kind3,add3,h0],by simp [szT,kind3,add3],by simp [szT,kind3,add3,h0],fun _=>by omega,by simp,fun i hi=>absurd hi (by simp)⟩
   rw [List.eq_nil_of_length_eq_zero h0] at hx;simp at hx
  ·cases hp:partN R P.length with
   | none=>
    by_cases h1:R.length=1
    ·rw [growF_leaf h1 hp] at hg
     cases hg
     refine ⟨by simp [rulesF,h1],fun x hx=>?_,by simp [szT,kind3,add3,h0],by simp [szT,kind3,add3],by simp [szT,kind3,add3,h1],fun _=>by omega,by simp,fun i hi=>absurd hi (by simp)⟩
     match R,h1 with
     | [y],_=>
      simp at hx
      subst hx
      simp [rulesF]
    ·rw [growF_fork h0 h1 hp] at hg;cases hg
   | some c=>
    rw [growF_branch h0 hp] at hg
    unfold BrF at hg
    cases hk:KidsF L n P R c L.length with
    | error e=>rw [hk] at hg;cases hg
    | ok l=>
     rw [hk] at hg
     cases hg
     obtain ⟨hc,hcon⟩:=partN_some hp
     have hn0:∀ x∈R,0≤numR x c:=fun x hx=>by
      unfold conB at hcon
      have:=List.all_eq_true.1 hcon x hx
      simpa using this
     have hnL:∀ x∈R,numR x c<(L.length:Int):=fun x hx=>by
      obtain ⟨k1,k2,k3,_⟩:=h.ok x hx
      have hc' : c<x.2.2.length:=by omega
      have hp' := k3 _ (List.getElem_mem hc')
      rw [numR_eq hc' hp']
      exact (badE_zero.1 (checkE_zero.1 k1).2.1 _ (List.getElem_mem hp')).1
     have K:=kids_KL hn0 (fun s hs hne t ht=>grow_GL hA hL n _ _ t (h.kid hc hs (arN_le hA _) hne) ht) L.length (Nat.le_refl _) l hk
     have hall:cntR R c L.length=R.length:=by
      unfold cntR
      rw [List.filter_eq_self.2 (fun x hx=>by simpa using hnL x hx)]
     have er:rulesF (n+1) (2,0,P.getD c [],l)=l.flatMap (fun x=>rulesF n x.2):=by simp [rulesF]
     have es:szT (n+1) (2,0,P.getD c [],l)=add3 (0,1,0) (sum3 (fun x=>szT n x.2) l):=by simp [szT,kind3]
     refine ⟨?_,fun x hx=>?_,?_,?_,?_,fun e=>?_,?_,K.sm⟩
     ·rw [er,K.len,hall]
     ·rw [er];exact K.mem x hx (hnL x hx)
     ·rw [es,if_neg h0];simp only [add3];rw [K.fl]
     ·rw [es];simp only [add3];have:=K.br;rw [hall] at this;rw [Nat.add_mul];omega
     ·rw [es];simp only [add3];rw [K.lv,hall];omega
     ·rw [es] at e;simp only [add3] at e;omega
     ·have:=K.le;omega
end Go.Proofs.YtfojfpnjnpkabaaGreat
namespace Go.Proofs.YtfojfpnjnpkabaaGreat
set_option maxRecDepth 100000
set_option linter.unusedVariables false
open Go.RowKit
attribute [local go_sem ↓] Go.wp_at_zero Go.wp_at_succ
structure Lent7 (base:Nat) (w:World) (v:Value) (l:List Ru) (k:Nat) (vs:List Value) (f:Nat→Nat):Prop where
 row:w.ownsRow base 63 2 v k vs
 le:k≤l.length
 lo:∀ i,i<k * 2→base≤f i∧f i<w.heap.size
 up:∀ i j,i<j→j<k * 2→f i<f j
 one:∀ i (h:i<l.length),i<k→vs[i * 2]? = some (.slice (some ⟨f (i * 2),0,none⟩) l[i].1.length (l[i].1.length+1))∧Row base w (.slice (some ⟨f (i * 2),0,none⟩) (l[i].1.length+1) (l[i].1.length+1)) (l[i].1 ++ [77])
 two:∀ i (h:i<l.length),i<k→vs[i * 2+1]? = some (.slice (some ⟨f (i * 2+1),0,none⟩) l[i].2.length (l[i].2.length+1))∧Row base w (.slice (some ⟨f (i * 2+1),0,none⟩) (l[i].2.length+1) (l[i].2.length+1)) (l[i].2 ++ [78])
structure Left7 (base:Nat) (w:World) (gv:Nat) (l:List Ru) (k:Nat) (f:Nat→Nat):Prop where
 blk:∃ cur,w.heap[gv]? = some (.cells cur 63 (0,0))∧l.length * 2≤cur.size∧∀ i (h:i<l.length),k≤i→cur[i * 2]? = some (.slice (some ⟨f (i * 2),0,none⟩) l[i].1.length (l[i].1.length+1))∧cur[i * 2+1]? = some (.slice (some ⟨f (i * 2+1),0,none⟩) l[i].2.length (l[i].2.length+1))
 ge:base≤gv∧∀ i,i<l.length * 2→base≤f i
 up:∀ i j,i<j→j<l.length * 2→f i<f j
 one:∀ i (h:i<l.length),k≤i→Row base w (.slice (some ⟨f (i * 2),0,none⟩) (l[i].1.length+1) (l[i].1.length+1)) (l[i].1 ++ [77])
 two:∀ i (h:i<l.length),k≤i→Row base w (.slice (some ⟨f (i * 2+1),0,none⟩) (l[i].2.length+1) (l[i].2.length+1)) (l[i].2 ++ [78])
theorem step_ownT {wb W : World} {ops : Array Oper} {o : Oper} {a : Act} {K : Act → World → Prop} {Q : Exit → Act → World → Prop} {E : Prop} (hgd : o.guard = none) (s x : Operand)
    (ho : o.op = .call { callee := .builtin .append, args := #[s, x], argTypes := #[47, 47] })
    (B : Nat) (hs : a.eval s = .slice (some ⟨B, 0, none⟩) 0 0) (ys : List Int) (ad : Addr) (c : Nat) (hx : a.eval x = .slice (some ad) ys.length c)
    (hW : Same0 wb W) (hB : W.heap[B]? = some (.cells #[] 3 (0, 0))) (hb : wb.heap.size ≤ B) (hy : IntsAt wb (some ad) ys) (hn : 0 < ys.length) (hsz : ys.length ≤ 2000)
    (h : ∀ g cap w', TmAt w' g cap ys → wb.heap.size ≤ g → Same0 wb w' → (∀ g2 c2 zs, TmAt W g2 c2 zs → 0 < zs.length → TmAt w' g2 c2 zs) → (∀ q o, q ≠ B → W.heap[q]? = some o → w'.heap[q]? = some o) → K (a.put o.dst (.slice (some ⟨g, 0, none⟩) ys.length cap)) w') :
    if Region.wanted o (yielded ops a.tmps) = true then Oper.wp Tryz.prog o a W K Q else E := by
  obtain ⟨i, hi, hz0, hz1, hz2⟩ := info_parts info_intT
  have hBl := lt_of_at hB
  refine step_append_lies _ hgd s x 47 ho wb.heap.size 3 i _ 1 8 Tryz.underlying47 hi hz0 hz1 hz2 rfl (by decide) (.slice (some ⟨B, 0, none⟩) 0 0) 0 [] hs ⟨rfl, .inr ⟨B, 0, #[], rfl, hb, hB, Nat.le_refl _, by unfold maxLen; omega, rfl, rfl⟩⟩ ad ys.length c (iv ys) hx (by rw [iv_length]; omega) (fun j u hj => ?_) (iv_oneCell ys) hn (by unfold maxLen; omega) (by omega) hW.size W.heap.size rfl ?_
  · obtain ⟨ad', e, hc⟩ := (hy.same hW).src (by have := (List.getElem?_eq_some_iff.1 hj).1; omega)
    cases e
    exact hc j u hj
  · intro g cap w' hown hgrow hat hlt
    have k : Kept (fun k => k = B) W w' := Kept.grown (Kept.refl _ W) hgrow (fun _ e _ => by simp only [Value.ownBlock, Option.some.injEq] at e; exact e.symm)
    simp only [Nat.zero_add, List.nil_append] at hown ⊢
    refine h g cap w' ?_ (by rcases hat with e | e; · simp only [Value.ownBlock, Option.some.injEq] at e; omega
                             · have := hW.size; omega) (hW.trans (Kept.mono k (fun i hi e => e)) (fun i hi e => by omega)) (fun g2 c2 zs ht hz => ?_) (fun q o hq ho => k.at ho hq)
    · refine ⟨hown.1, .inr ?_⟩
      rcases hown.2 with ⟨e, _⟩ | ⟨g', c', cur, e, _, r⟩
      · cases e
      · cases e
        exact ⟨g, cap, cur, rfl, Nat.le_refl _, r⟩
    · refine k.row ht (fun q e hq => ?_)
      rcases ht.2 with ⟨e0, _⟩ | ⟨g', c', cur, e1, _, hg, h1, h2, h3, h4⟩
      · cases e0
      · cases e1
        simp only [Value.ownBlock, Option.some.injEq] at e
        subst e; subst hq
        rw [hB] at hg
        cases hg
        simp at h3
        omega
set_option maxHeartbeats 8000000 in
theorem rown_any {w:World} {a1 a2:Addr} {ac bc:Nat} {x:Ru} (h1:IntsAt w (some a1) x.1) (h2:IntsAt w (some a2) x.2) (p1:0<x.1.length) (p2:0<x.2.length) (m1:x.1.length≤2000) (m2:x.2.length≤2000) :
  Calls Tryz.prog 59 #[.agg #[.slice (some a1) x.1.length ac,.slice (some a2) x.2.length bc]] w fun e w' => ∃ g c g' c', e=.returned (.agg #[.slice (some ⟨g,0,none⟩) x.1.length c,.slice (some ⟨g', 0,none⟩) x.2.length c'])∧TmAt w' g c x.1∧TmAt w' g' c' x.2∧w.heap.size≤g∧w.heap.size≤g' ∧ Same0 w w' := by
 obtain ⟨wb,hwb⟩:∃ wb,wb=(w.alloc (.cells #[.slice (some a1) x.1.length ac,.slice (some a2) x.2.length bc] 63)).alloc (.cells #[.slice none 0 0,.slice none 0 0] 63):=⟨_,rfl⟩
 have K0:Same0 w wb:=by rw [hwb];exact ((Kept.refl _ w).alloc _).alloc _
 have z0:wb.heap.size=w.heap.size+2:=by rw [hwb];simp
 have B0:wb.heap[w.heap.size]? = some (.cells #[.slice (some a1) x.1.length ac,.slice (some a2) x.2.length bc] 63 (0,0)):=by rw [hwb];exact heap_alloc2_old _ _ _
 have B1:wb.heap[w.heap.size+1]? = some (.cells #[.slice none 0 0,.slice none 0 0] 63 (0,0)):=by rw [hwb];exact heap_al_al _ _ _
 have HS:Hid (∀ ww,Same0 wb ww→(ww.cell? ⟨w.heap.size,0,none⟩=some (.slice (some a1) x.1.length ac)∧ww.cell? ⟨w.heap.size,1,none⟩=some (.slice (some a2) x.2.length bc))∧(ww.cell? ⟨w.heap.size+1,0,none⟩=some (.slice none 0 0)∧ww.cell? ⟨w.heap.size+1,1,none⟩=some (.slice none 0 0))∧ww.frozen? ⟨w.heap.size+1,0,none⟩=false∧ww.frozen? ⟨w.heap.size+1,1,none⟩=false):=fun ww hk=>⟨⟨cellAt (hk.at0 B0) 0,cellAt (hk.at0 B0) 1⟩,⟨cellAt (hk.at0 B1) 0,cellAt (hk.at0 B1) 1⟩,frozenAt (hk.at0 B1) 0,frozenAt (hk.at0 B1) 1⟩
 have HEnd:Hid (∀ ww (A B:Value),Same0 wb ww→Same0 w ((ww.setCell ⟨w.heap.size+1,0,none⟩ A).setCell ⟨w.heap.size+1,1,none⟩ B)):=fun ww A B hk=>((K0.trans' hk).setCell (fun h=>absurd h (by simp)) _).setCell (fun h=>absurd h (by simp)) _
 have HT:Hid (∀ ww g c xs (A B:Value),TmAt ww g c xs→wb.heap.size≤g→TmAt ((ww.setCell ⟨w.heap.size+1,0,none⟩ A).setCell ⟨w.heap.size+1,1,none⟩ B) g c xs):=fun ww g c xs A B ht hg=>by
  have k:Kept (fun k=>k=w.heap.size+1) ww ((ww.setCell ⟨w.heap.size+1,0,none⟩ A).setCell ⟨w.heap.size+1,1,none⟩ B):=Kept.setCell (p:=⟨w.heap.size+1,1,none⟩) (Kept.setCell (p:=⟨w.heap.size+1,0,none⟩) (Kept.refl (fun k=>k=w.heap.size+1) ww) (fun _=>rfl) A) (fun _=>rfl) B
  exact k.row ht (fun i e=>by simp [Value.ownBlock] at e;omega)
 have HR:Hid (∀ ww (A B:Value),Same0 wb ww→((ww.setCell ⟨w.heap.size+1,0,none⟩ A).setCell ⟨w.heap.size+1,1,none⟩ B).cell? ⟨w.heap.size+1,0,none⟩=some A∧((ww.setCell ⟨w.heap.size+1,0,none⟩ A).setCell ⟨w.heap.size+1,1,none⟩ B).cell? ⟨w.heap.size+1,1,none⟩=some B):=fun ww A B hk=>by
  have b:=setAt (setAt (hk.at0 B1) 0 A) 1 B
  exact ⟨cellAt b 0,cellAt b 1⟩
 have I1:=h1.same K0
 have I2:=h2.same K0
 obtain ⟨⟨c00,c01⟩,⟨c10,c11⟩,f10,f11⟩:=HS.out wb (Kept.refl _ _)
 have HW:Hid (wb=(w.alloc (.cells #[.slice (some a1) x.1.length ac,.slice (some a2) x.2.length bc] 63)).alloc (.cells #[.slice none 0 0,.slice none 0 0] 63)):=hwb
 clear B0 B1 h1 h2 hwb
 go_enter Tryz.func59,Tryz.ntmps59
 go_wp2
 rw [← HW.out]
 have E0:(wb.alloc (.cells #[] 3)).heap[w.heap.size+2]? = some (.cells #[] 3 (0,0)):=by rw [← z0];exact heap_alloc_new _ _
 have E1:((wb.alloc (.cells #[] 3)).alloc (.cells #[] 3)).heap[w.heap.size+2]? = some (.cells #[] 3 (0,0)):=by rw [← z0];exact heap_alloc2_old _ _ _
 have E2:((wb.alloc (.cells #[] 3)).alloc (.cells #[] 3)).heap[w.heap.size+3]? = some (.cells #[] 3 (0,0)):=by have:=heap_alloc_new (wb.alloc (.cells #[] 3)) (.cells #[] 3 (0,0));rw [World.size_alloc,z0] at this;exact this
 have HE:Hid ((wb.alloc (.cells #[] 3)).heap[w.heap.size+2]? = some (.cells #[] 3 (0,0))∧((wb.alloc (.cells #[] 3)).alloc (.cells #[] 3)).heap[w.heap.size+2]? = some (.cells #[] 3 (0,0))∧((wb.alloc (.cells #[] 3)).alloc (.cells #[] 3)).heap[w.heap.size+3]? = some (.cells #[] 3 (0,0))):=⟨E0,E1,E2⟩
 have hz0:Hid (wb.heap.size=w.heap.size+2):=z0
 clear E0 E1 E2
 rename_i QQ KK hKK
 have FIN:Hid (∀ (t0 t1 t3 t4 t5 t6 t7 t8 t9 t10 t11:Value) (w2:World) (g c g' c' : Nat),Same0 wb w2→TmAt w2 g c x.1→TmAt w2 g' c' x.2→wb.heap.size≤g→wb.heap.size≤g' → KK { tmps:=#[t0,t1,.pointer (some ⟨w.heap.size+1,0,none⟩),t3,t4,t5,t6,t7,t8,t9,t10,t11],defers:=[] } ((w2.setCell ⟨w.heap.size+1,0,none⟩ (.slice (some ⟨g,0,none⟩) x.1.length c)).setCell ⟨w.heap.size+1,1,none⟩ (.slice (some ⟨g', 0,none⟩) x.2.length c'))):=by
  intro t0 t1 t3 t4 t5 t6 t7 t8 t9 t10 t11 w2 g c g' c' S3 T5 T3 G1 G3
  apply hKK
  clear HS I1 I2
  go_wp2
  exact bodyPost_ret (v:=.agg #[.slice (some ⟨g,0,none⟩) x.1.length c,.slice (some ⟨g', 0,none⟩) x.2.length c']) (by obtain ⟨r0,r1⟩:=HR.out w2 (.slice (some ⟨g,0,none⟩) x.1.length c) (.slice (some ⟨g', 0,none⟩) x.2.length c') S3;simp [results,Tryz.results59,go_sem,r0,r1]) rfl ⟨g,c,g', c', rfl,HT.out _ _ _ _ _ _ T5 G1,HT.out _ _ _ _ _ _ T3 G3,by omega,by omega,HEnd.out _ _ _ S3⟩
 clear HR HT HEnd
 go_region_law (first
  | (have T2:=T1;have hz:=hz0.out;have hzz:=S1.size;refine step_ownT (wb:=wb) (by rfl) _ _ (by rfl) _ (by rfl) x.2 a2 bc (by rfl) (by first | exact S1 | exact S1.alloc _) (by first | exact heap_alloc_new _ _ | exact X2 | exact X3) (by omega) I2 p2 m2 ?_;intro g' c' w2 T3 G3 S3 T4 _;obtain ⟨⟨e00,e01⟩,⟨e10,e11⟩,y10,y11⟩:=HS.out w2 S3;have T5:=T4 _ _ _ (by first | exact T2 | exact T2.same ((Kept.refl _ _).alloc _)) p1)
  | (have hz:=hz0.out;refine step_ownT (wb:=wb) (by rfl) _ _ (by rfl) _ (by rfl) x.1 a1 ac (by rfl) (by first | exact ((Kept.refl _ wb).alloc _).drew | exact (((Kept.refl _ wb).alloc _).alloc _).drew | exact (Kept.refl _ wb).drew.alloc _ | exact ((Kept.refl _ wb).drew.alloc _).alloc _) (by first | exact HE.out.1 | exact HE.out.2.1 | exact HE.out.2.2) (by omega) I1 p1 m1 ?_;intro g c w1 T1 G1 S1 T0 KQ;obtain ⟨⟨e00,e01⟩,⟨e10,e11⟩,y10,y11⟩:=HS.out w1 S1;obtain ⟨⟨_,e01'⟩,_⟩:=HS.out _ (S1.alloc (.cells #[] 3)); (try have X2:=KQ (w.heap.size+2) _ (by omega) HE.out.2.1); (try have X3:=KQ (w.heap.size+3) _ (by omega) HE.out.2.2);clear hz KQ T0))
 all_goals exact FIN.out _ _ _ _ _ _ _ _ _ _ _ w2 g c g' c' S3 T5 T3 G1 G3
end Go.Proofs.YtfojfpnjnpkabaaGreat
