import Derived.Test.YtfojfpnjnpkabaaGreatGB16
import Derived.Test.YtfojfpnjnpkabaaGreatGB06
import Derived.Test.YtfojfpnjnpkabaaGreatGB05
import Derived.Laws.AppendOwnNone
namespace Go.Proofs.YtfojfpnjnpkabaaGreat
set_option maxRecDepth 100000
set_option linter.unusedVariables false
open Go.RowKit
attribute [local go_sem ↓] Go.wp_at_zero Go.wp_at_succ
def FdOut (w:World) (R:Fd) (e:Ending) (w' : World):Prop:=∃ po pc,e=.returned (.tuple #[.agg #[.int .i64 R.1,.int .i64 R.2.1,.slice po R.2.2.1.length pc,.int .i64 R.2.2.2.1],.int .i64 R.2.2.2.2])∧Row w.heap.size w' (.slice po R.2.2.1.length pc) R.2.2.1∧Same0 w w'
theorem WAt.same {B:Nat→Prop} {b:Nat} {L:List Sym} {U:List Int} {a:Int} {R:Fd} {w w' : World} {N:Nat} (h:WAt B b L U a R w N) (hk:Same0 w w'):WAt B b L U a R w' N:=by
 obtain ⟨n,t,x0,x1,x2,x3,h1,h2,h3,h4,h5⟩:=h
 exact ⟨n,t,x0,x1,x2,x3,h1,hk.at0 h2,h3.same hk,h4,h5⟩
set_option maxHeartbeats 8000000 in
theorem walk_go {w:World} {bs:Nat} {L:List Sym} (hs:Sg w.heap.size w bs L) {n:Nat} {v:Value} {t:Tr n} (h:CsB (fun b=>b<w.heap.size) w n v t) (hsm:SmW n t) {tto:Option Addr} {tc:Nat} {T:List Int} (ht:Arg w tto T tc) (hc:checkE L T=0) (hv:T.any (fun x=>decide (x<0))=false) {a:Nat} (ha:a<T.length) :
  Calls Tryz.prog 15 #[.pointer (some ⟨bs,0,none⟩),v,.slice tto T.length tc,.int .i64 (a:Int)] w (FdOut w (goF L (subN L T a) a n t)):=by
 obtain ⟨k,r,po,pl,pc,ko,kl,kc,rfl⟩:=h.shape
 have hT:=checkE_zero.1 hc
 have hpz:placeE L T (a:Int)=0:=by unfold placeE;rw [if_neg (by simp [hc]),if_neg (by omega)]
 have hsub:checkE L (subN L T a)=0:=by
  refine checkE_zero.2 ⟨?_,?_,sub_need hT.2.2 ha⟩
  ·rw [sub_length hT.2.2 ha];have:=(endN_le hT.2.2 ha).2;omega
  ·refine badE_zero.2 (fun x hx=>badE_zero.1 hT.2.1 x ?_)
   unfold subN at hx
   exact List.mem_of_mem_take (List.mem_of_mem_drop hx)
 have hUT:=sub_need hT.2.2 ha
 have hUl:=checkE_zero.1 hsub
 obtain ⟨W1,hW1⟩:∃ W1,W1=(w.alloc (.cells #[.int .i64 k,.int .i64 r,.slice po pl pc,.slice ko kl kc] 35)).alloc (.cells #[.int .i64 0,.int .i64 0,.slice none 0 0,.int .i64 0] 53):=⟨_,rfl⟩
 have KW:Same0 w W1:=by rw [hW1];exact ((Kept.refl _ w).alloc _).alloc _
 have ez:w.heap.size+1<W1.heap.size:=by rw [hW1];simp
 have b0:W1.heap[w.heap.size]? = some (.cells #[.int .i64 k,.int .i64 r,.slice po pl pc,.slice ko kl kc] 35 (0,0)):=by rw [hW1];exact heap_alloc2_old _ _ _
 have SW:Hid (∀ ww,Kept (fun q=>q=w.heap.size) W1 ww→Same0 w ww):=fun ww hk=>Kept.trans KW hk (fun i hi e=>by omega)
 have RS:Hid (∀ ww,Kept (fun q=>q=w.heap.size) W1 ww→ww.heap[w.heap.size+1]? = some (.cells #[.int .i64 0,.int .i64 0,.slice none 0 0,.int .i64 0] 53 (0,0))):=fun ww hk=>hk.at (by rw [hW1];exact heap_al_al _ _ _) (fun e=>by omega)
 have RC:Hid (∀ ww,Kept (fun q=>q=w.heap.size) W1 ww→(ww.cell? ⟨w.heap.size+1,0,none⟩=some (.int .i64 0)∧ww.cell? ⟨w.heap.size+1,1,none⟩=some (.int .i64 0)∧ww.cell? ⟨w.heap.size+1,2,none⟩=some (.slice none 0 0)∧ww.cell? ⟨w.heap.size+1,3,none⟩=some (.int .i64 0))∧ww.frozen? ⟨w.heap.size+1,0,none⟩=false∧ww.frozen? ⟨w.heap.size+1,1,none⟩=false∧ww.frozen? ⟨w.heap.size+1,2,none⟩=false∧ww.frozen? ⟨w.heap.size+1,3,none⟩=false):=fun ww hk=>by
  have rs:=RS.out ww hk
  exact ⟨⟨cellAt rs 0,cellAt rs 1,cellAt rs 2,cellAt rs 3⟩,frozenAt rs 0,frozenAt rs 1,frozenAt rs 2,frozenAt rs 3⟩
 have PUT:Hid (∀ ww x0 x1 x2 x3,Kept (fun q=>q=w.heap.size) W1 ww→(((((ww.setCell ⟨w.heap.size+1,0,none⟩ x0).setCell ⟨w.heap.size+1,1,none⟩ x1).setCell ⟨w.heap.size+1,2,none⟩ x2).setCell ⟨w.heap.size+1,3,none⟩ x3)).cell? ⟨w.heap.size+1,0,none⟩=some x0∧(((((ww.setCell ⟨w.heap.size+1,0,none⟩ x0).setCell ⟨w.heap.size+1,1,none⟩ x1).setCell ⟨w.heap.size+1,2,none⟩ x2).setCell ⟨w.heap.size+1,3,none⟩ x3)).cell? ⟨w.heap.size+1,1,none⟩=some x1∧(((((ww.setCell ⟨w.heap.size+1,0,none⟩ x0).setCell ⟨w.heap.size+1,1,none⟩ x1).setCell ⟨w.heap.size+1,2,none⟩ x2).setCell ⟨w.heap.size+1,3,none⟩ x3)).cell? ⟨w.heap.size+1,2,none⟩=some x2∧(((((ww.setCell ⟨w.heap.size+1,0,none⟩ x0).setCell ⟨w.heap.size+1,1,none⟩ x1).setCell ⟨w.heap.size+1,2,none⟩ x2).setCell ⟨w.heap.size+1,3,none⟩ x3)).cell? ⟨w.heap.size+1,3,none⟩=some x3∧Kept (fun q=>q=w.heap.size+1) ww ((((ww.setCell ⟨w.heap.size+1,0,none⟩ x0).setCell ⟨w.heap.size+1,1,none⟩ x1).setCell ⟨w.heap.size+1,2,none⟩ x2).setCell ⟨w.heap.size+1,3,none⟩ x3)∧Same0 w ((((ww.setCell ⟨w.heap.size+1,0,none⟩ x0).setCell ⟨w.heap.size+1,1,none⟩ x1).setCell ⟨w.heap.size+1,2,none⟩ x2).setCell ⟨w.heap.size+1,3,none⟩ x3)):=by
  intro ww x0 x1 x2 x3 hk
  have rs:=RS.out ww hk
  have s3:=setAt (setAt (setAt (setAt rs 0 x0) 1 x1) 2 x2) 3 x3
  have k1:=Kept.setCell (p:=⟨w.heap.size+1,0,none⟩) (Kept.refl (fun q=>q=w.heap.size+1) ww) (fun _=>rfl) x0
  have k2:=Kept.setCell (p:=⟨w.heap.size+1,1,none⟩) k1 (fun _=>rfl) x1
  have k3:=Kept.setCell (p:=⟨w.heap.size+1,2,none⟩) k2 (fun _=>rfl) x2
  have k4:=Kept.setCell (p:=⟨w.heap.size+1,3,none⟩) k3 (fun _=>rfl) x3
  exact ⟨cellAt s3 0,cellAt s3 1,cellAt s3 2,cellAt s3 3,k4,Kept.trans (SW.out ww hk) k4 (fun i hi e=>by omega)⟩
 have C1:=check_any (cap:=tc) (sg_up (hs.same KW) KW.size) (ht.same KW).at' (by unfold maxLen;omega)
 rw [hc] at C1
 have C2:Hid (∀ ww,Same0 W1 ww→Calls Tryz.prog 44 #[.slice tto T.length tc,.func (.func 45) #[] #[]] ww fun e w' => e=.returned (.bool false)∧w' = ww):=fun ww hk=>by
  have:=containsf_var (sc:=tc) ((ht.same KW).same hk).at' (by unfold maxLen;omega)
  rw [hv] at this
  exact this
 have C3:Hid (∀ ww,Same0 W1 ww→Calls Tryz.prog 46 #[.pointer (some ⟨bs,0,none⟩),.slice tto T.length tc,.int .i64 (a:Int)] ww fun e w' => ∃ uo uc,e=.returned (.tuple #[.slice uo (subN L T a).length uc,.int .i64 0])∧Hid (IntsAt w' uo (subN L T a)∧∀ a,uo=some a→ww.heap.size≤a.block)∧Same0 ww w'):=fun ww hk=>by
  refine (sub_any (cap:=tc) (sg_up ((hs.same KW).same hk) (KW.trans' hk).size) ((ht.same KW).same hk).at' (by unfold maxLen;omega) ht.cap' (a:Int)).mono ?_
  rintro e w' ⟨v,rfl,hr,k⟩
  rw [subA,if_pos hpz] at hr
  simp only [Int.toNat_natCast] at hr
  obtain ⟨uo,uc,rfl,h1,_,h2⟩:=hr.ints
  exact ⟨uo,uc,by rw [hpz],⟨h1,fun a e=>(h2 a e).1⟩,k⟩
 have HS:Hid (∀ ww,Kept (fun q=>q=w.heap.size) W1 ww→Sg ww.heap.size ww bs L):=fun ww hk=>by
  have:=SW.out ww hk
  exact sg_up (hs.same this) this.size
 have hw0:WAt (fun b=>b<w.heap.size) w.heap.size L (subN L T a) a (goF L (subN L T a) a n t) W1 (mesT n t):=⟨n,t,_,_,_,_,rfl,b0,h.same KW,hsm,rfl⟩
 generalize goF L (subN L T a) a n t=R at *
 generalize subN L T a=U at *
 have HAL:Hid (a≤2000):=by have:=hT.1;show a≤2000;omega
 have HUT:Hid (IsT L U∧checkE L U=0∧U.length≤2000):=⟨hUT,hsub,by have:=hUl.1;omega⟩
 have HW0:Hid (∃ N,WAt (fun b=>b<w.heap.size) w.heap.size L U a R W1 N):=⟨_,hw0⟩
 clear hw0 b0 hsub hUl hUT hT hc hv hpz ht hs h hsm
 go_enter Tryz.func15,Tryz.ntmps15
 go_upto_region 1 with fail
 rw [← hW1]
 clear hW1
 go_upto_region 4 with (first | (go_at_call 43;refine C1.mono ?_;rintro e w2 ⟨rfl,k2⟩))
 have D2:=C2.out w2 k2
 go_upto_region 6 with (first | (go_at_call 44;refine D2.mono ?_;rintro e w3 ⟨rfl,rfl⟩))
 have D3:=C3.out w3 k2
 go_wp2_with (first | (go_at_call 46;refine D3.mono ?_;rintro e w4 ⟨uo,uc,rfl,hu,k4⟩))
 have k14:=k2.trans' k4
 obtain ⟨hu1,hu2⟩:=hu.out
 have HU:Hid (IntsAt w4 uo U):=hu1
 have z2:=k2.size
 have HU2:Hid (∀ a,uo=some a→w.heap.size+1<a.block):=fun a e=>by have:=hu2 a e;omega
 have HW4:Hid (∃ N,WAt (fun b=>b<w.heap.size) w.heap.size L U a R w4 N):=by obtain ⟨N,hN⟩:=HW0.out;exact ⟨N,hN.same k14⟩
 have KT:Hid (∀ ww w5,Kept (fun q=>q=w.heap.size) W1 ww→Same0 ww w5→Kept (fun q=>q=w.heap.size) W1 w5):=fun ww w5 h1 h2=>Kept.trans h1 h2.mono' (fun _ _ z=>z)
 clear hu hu1 hu2 HW0 C1 C2 C3 D2 D3 z2
 obtain ⟨leastD,HLD⟩:∃ f:(Nat→Prop)→Nat,Hid ((∀ P:Nat→Prop,(∃ n,P n)→P (f P))∧∀ (P:Nat→Prop) n,P n→f P≤n):=least_fun
 go_loopw [] (fun wr=>Hid (∃ N,WAt (fun b=>b<w.heap.size) w.heap.size L U a R wr N)∧Hid (IntsAt wr uo U)∧Kept (fun q=>q=w.heap.size) W1 wr) (fun wr=>leastD (WAt (fun b=>b<w.heap.size) w.heap.size L U a R wr))
 case atStart=>exact ⟨HW4,HU,k14.mono'⟩
 case round=>
  clear HW4 HU
  obtain ⟨hN,hu,kw⟩:=hrel
  obtain ⟨n,t,x0,x1,x2,x3,hm,hb,hcs,hsm,hg⟩:=HLD.out.1 _ hN.out
  have HM:Hid (leastD (WAt (fun b=>b<w.heap.size) w.heap.size L U a R wr)=mesT n t):=hm.symm
  clear hm hN
  cases n with
  | zero=>exact hcs.elim
  | succ n=>
   obtain ⟨k,r,p,l⟩:=t
   have HC:Hid (CsB (fun b=>b<w.heap.size) wr (n+1) (.agg #[x0,x1,x2,x3]) (k,r,p,l)):=hcs
   obtain ⟨po,pc,ko,kc,e,h2,h3,h4,h5,h6⟩:=hcs
   simp only [Value.agg.injEq,Array.mk.injEq,List.cons.injEq,and_true] at e
   obtain ⟨rfl,rfl,rfl,rfl⟩:=e
   obtain ⟨hl9,hsk⟩:=hsm
   have c0:=cellAt hb 0
   have c1:=cellAt hb 1
   have c2:=cellAt hb 2
   have c3:=cellAt hb 3
   have q0:=frozenAt hb 0
   have q1:=frozenAt hb 1
   have q2:=frozenAt hb 2
   have q3:=frozenAt hb 3
   simp only [List.getElem?_toArray,List.getElem?_cons_zero,List.getElem?_cons_succ] at c0 c1 c2 c3
   by_cases hk2:k=2
   ·subst hk2
    have D4:Calls Tryz.prog 47 #[.pointer (some ⟨bs,0,none⟩),.slice uo U.length uc,.slice po p.length pc] wr fun e w' => e=.returned (.tuple #[.int .i64 (match leads L U 0 p with | some q=>(q:Int) | none=>0),.int .i64 (match leads L U 0 p with | some _=>0 | none=>25)])∧Same0 wr w' := by
     have:=place_any (cap:=uc) (pcap:=pc) (HS.out wr kw) hu.out (by have:=HUT.out.2.2;unfold maxLen;omega) h2.at' (by have:=h2.size;unfold maxLen;omega)
     unfold leadA leadE at this
     rw [if_neg (by simp [HUT.out.2.1]),if_neg (by simp [HUT.out.2.1])] at this
     exact this
    cases hq:leads L U 0 p with
    | none=>
     rw [hq] at D4
     have HR:Hid (R=(0,0,[],0,25)):=by show _=_;rw [← hg,goF,if_pos rfl,hq]
     clear hg hq h6 h2 h3 hb HC hsk hu
     go_wp2_with (first | (go_at_call 47;refine D4.mono ?_;rintro e w5 ⟨rfl,k5⟩;obtain ⟨⟨r0,r1,r2,r3⟩,g0,g1,g2,g3⟩:=RC.out w5 (KT.out wr w5 kw k5)))
     obtain ⟨y0,y1,y2,y3,kk,ks⟩:=PUT.out w5 (.int .i64 0) (.int .i64 0) (.slice none 0 0) (.int .i64 0) (KT.out wr w5 kw k5)
     exact bodyPost_ret (v:=.tuple #[.agg #[.int .i64 0,.int .i64 0,.slice none 0 0,.int .i64 0],.int .i64 25]) (by simp [results,Tryz.results15,go_sem,y0,y1,y2,y3]) rfl (by rw [HR.out];exact ⟨none,0,rfl,World.ownsRow_nil _ _ _ _,ks⟩)
    | some q=>
     rw [hq] at D4
     have hql:q<U.length:=leads_lt HUT.out.1 p 0 (isT_pos HUT.out.1) q hq
     have hgd:U.getD q 0=U[q]:=by simp [hql]
     have i1:(0:Int)≤(q:Int):=by omega
     have i2:(q:Int)<(U.length:Int):=by omega
     have C5:Hid (∀ ww,Kept (fun q=>q=w.heap.size) W1 ww→Calls Tryz.prog 31 #[.pointer (some ⟨bs,0,none⟩),.int .i64 U[q]] ww fun e w' => e=.returned (.bool (defB L U[q]))∧Same0 ww w'):=fun ww hk=>tdef_any (HS.out ww hk) _
     obtain ⟨ub,uoff,rfl,hub,hcell⟩:=hu.out.get hql
     have HCL:Hid (∀ ww,Same0 wr ww→ww.cell? ⟨ub,uoff+q,none⟩=some (.int .i64 U[q])):=fun ww hk=>(hk.cell (p:=⟨ub,uoff+q,none⟩) hub (fun f=>f)).trans hcell
     have BXC:Hid (∀ ww,Same0 wr ww→(ww.cell? ⟨w.heap.size,0,none⟩=some (.int .i64 2)∧ww.cell? ⟨w.heap.size,1,none⟩=some (.int .i64 r)∧ww.cell? ⟨w.heap.size,2,none⟩=some (.slice po p.length pc)∧ww.cell? ⟨w.heap.size,3,none⟩=some (.slice ko l.length kc))∧ww.frozen? ⟨w.heap.size,0,none⟩=false∧ww.frozen? ⟨w.heap.size,1,none⟩=false∧ww.frozen? ⟨w.heap.size,2,none⟩=false∧ww.frozen? ⟨w.heap.size,3,none⟩=false):=fun ww hk=>by
      have h1:=hk.at0 hb
      exact ⟨⟨cellAt h1 0,cellAt h1 1,cellAt h1 2,cellAt h1 3⟩,frozenAt h1 0,frozenAt h1 1,frozenAt h1 2,frozenAt h1 3⟩
     cases hd:defB L U[q] with
     | true=>
      rw [hd] at C5
      have HR:Hid (R=(3,0,p,(a:Int)+q,0)):=by show _=_;rw [← hg,goF,if_pos rfl,hq];simp only [hgd,hd,if_true]
      have C6:Hid (∀ ww,Same0 wr ww→Calls Tryz.prog 48 #[.slice po p.length pc] ww fun e w' => ∃ co cc,e=.returned (.slice co p.length cc)∧Hid (Row ww.heap.size w' (.slice co p.length cc) p)∧Same0 ww w'):=fun ww hk=>by
       refine (cloneI_any (h2.same hk)).mono ?_
       rintro e w' ⟨v,rfl,hr,k⟩
       obtain ⟨co,cc,rfl⟩:=row_shape hr
       exact ⟨co,cc,rfl,hr,k⟩
      have ew:IntKind.i64.wrap ((a:Int)+(q:Int))=(a:Int)+(q:Int):=by have:=HAL.out;have:=HUT.out.2.2;exact iwrap (by omega) (by omega)
      have ROWF:Hid (∀ w6 w7 ww co cc,Same0 wr w6→Row w6.heap.size w7 (.slice co p.length cc) p→Kept (fun q=>q=w.heap.size+1) w7 ww→Row w.heap.size ww (.slice co p.length cc) p):=fun w6 w7 ww co cc k6 r7 kk=>by
       have z6:=k6.size
       have z5:=kw.size
       refine row_mono (kk.row r7 (fun k e f=>?_)) (by omega)
       obtain ⟨o1,o2,e1,_,_,o3⟩:=Row.ints r7
       cases e1
       cases co with
       | none=>simp [Value.ownBlock] at e
       | some a=>simp only [Value.ownBlock,Option.some.injEq] at e;have:=(o3 a rfl).1;omega
      clear hg hq h6 h2 h3 hb HC hsk hu hd hcell
      go_upto_region 13 with (first | (go_at_call 47;refine D4.mono ?_;rintro e w5 ⟨rfl,k5⟩))
      have u5:=HCL.out w5 k5
      have D5:=C5.out w5 (KT.out wr w5 kw k5)
      go_upto_region 14 with (first | (go_at_call 31;refine D5.mono ?_;rintro e w6 ⟨rfl,k6⟩))
      have k16:=k5.trans' k6
      obtain ⟨⟨d0,d1,d2,d3⟩,_⟩:=BXC.out w6 k16
      have D6:=C6.out w6 k16
      go_wp2_with (first | (go_at_call 48;refine D6.mono ?_;rintro e w7 ⟨co,cc,rfl,hcl,k7⟩;obtain ⟨⟨r0,r1,r2,r3⟩,f0,f1,f2,f3⟩:=RC.out w7 (KT.out wr w7 kw (k16.trans' k7))))
      obtain ⟨y0,y1,y2,y3,kk,ks⟩:=PUT.out w7 (.int .i64 3) (.int .i64 0) (.slice co p.length cc) (.int .i64 ((a:Int)+(q:Int))) (KT.out wr w7 kw (k16.trans' k7))
      exact bodyPost_ret (v:=.tuple #[.agg #[.int .i64 3,.int .i64 0,.slice co p.length cc,.int .i64 ((a:Int)+(q:Int))],.int .i64 0]) (by simp [results,Tryz.results15,go_sem,y0,y1,y2,y3]) rfl (by rw [HR.out];exact ⟨co,cc,rfl,ROWF.out w6 w7 _ co cc k16 hcl.out kk,ks⟩)
     | false=>
      rw [hd] at C5
      have HR:Hid (R=(match kidOf U[q] l with | none=>(2,0,[],0,0) | some t=>goF L U a n t)):=by show _=_;rw [← hg,goF,if_pos rfl,hq];simp only [hgd,hd,if_false,Bool.false_eq_true];cases kidOf U[q] l <;> rfl
      have FO:Hid (∀ ww,Same0 wr ww→Calls Tryz.prog 49 #[.agg #[.int .i64 2,.int .i64 r,.slice po p.length pc,.slice ko l.length kc],.int .i64 U[q]] ww fun e w' => ∃ z0 z1 zo zl zc yo yl yc,e=.returned (.agg #[.int .i64 z0,.int .i64 z1,.slice zo zl zc,.slice yo yl yc])∧Same0 ww w' ∧ Hid (match kidOf U[q] l with | some t=>CsB (fun b=>b<w.heap.size) w' n (.agg #[.int .i64 z0,.int .i64 z1,.slice zo zl zc,.slice yo yl yc]) t | none=>Value.agg #[.int .i64 z0,.int .i64 z1,.slice zo zl zc,.slice yo yl yc]=failV)):=fun ww hk=>(following_any (HC.out.same hk) hl9 U[q]).mono (fun e w' ⟨x0,x1,x2,x3,f1,f2,f3⟩=>by
       cases hkd:kidOf U[q] l with
       | none=>
        rw [hkd] at f3
        exact ⟨3,0,none,0,0,none,0,0,by rw [f1,f3],f2,rfl⟩
       | some t=>
        rw [hkd] at f3
        obtain ⟨z0,z1,zo,zl,zc,yo,yl,yc,ez⟩:=f3.shape
        exact ⟨z0,z1,zo,zl,zc,yo,yl,yc,by rw [f1,ez],f2,by rw [ez] at f3;exact f3⟩)
      have FINZ:Hid (∀ w7 z0 z1 zo zl zc yo yl yc,Same0 wr w7→Hid (match kidOf U[q] l with | some t=>CsB (fun b=>b<w.heap.size) w7 n (.agg #[.int .i64 z0,.int .i64 z1,.slice zo zl zc,.slice yo yl yc]) t | none=>Value.agg #[.int .i64 z0,.int .i64 z1,.slice zo zl zc,.slice yo yl yc]=failV)→(Hid (∃ N,WAt (fun b=>b<w.heap.size) w.heap.size L U a R ((((w7.setCell ⟨w.heap.size,0,none⟩ (.int .i64 z0)).setCell ⟨w.heap.size,1,none⟩ (.int .i64 z1)).setCell ⟨w.heap.size,2,none⟩ (.slice zo zl zc)).setCell ⟨w.heap.size,3,none⟩ (.slice yo yl yc)) N)∧Hid (IntsAt ((((w7.setCell ⟨w.heap.size,0,none⟩ (.int .i64 z0)).setCell ⟨w.heap.size,1,none⟩ (.int .i64 z1)).setCell ⟨w.heap.size,2,none⟩ (.slice zo zl zc)).setCell ⟨w.heap.size,3,none⟩ (.slice yo yl yc)) (some ⟨ub,uoff,none⟩) U)∧Kept (fun q=>q=w.heap.size) W1 ((((w7.setCell ⟨w.heap.size,0,none⟩ (.int .i64 z0)).setCell ⟨w.heap.size,1,none⟩ (.int .i64 z1)).setCell ⟨w.heap.size,2,none⟩ (.slice zo zl zc)).setCell ⟨w.heap.size,3,none⟩ (.slice yo yl yc)))∧leastD (WAt (fun b=>b<w.heap.size) w.heap.size L U a R ((((w7.setCell ⟨w.heap.size,0,none⟩ (.int .i64 z0)).setCell ⟨w.heap.size,1,none⟩ (.int .i64 z1)).setCell ⟨w.heap.size,2,none⟩ (.slice zo zl zc)).setCell ⟨w.heap.size,3,none⟩ (.slice yo yl yc)))<leastD (WAt (fun b=>b<w.heap.size) w.heap.size L U a R wr)):=by
       intro w7 z0 z1 zo zl zc yo yl yc hk hz
       have hz:=hz.out
       have s3:=setAt (setAt (setAt (setAt (hk.at0 hb) 0 (.int .i64 z0)) 1 (.int .i64 z1)) 2 (.slice zo zl zc)) 3 (.slice yo yl yc)
       have k1:=Kept.setCell (p:=⟨w.heap.size,0,none⟩) (Kept.refl (fun q=>q=w.heap.size) w7) (fun _=>rfl) (.int .i64 z0)
       have k2:=Kept.setCell (p:=⟨w.heap.size,1,none⟩) k1 (fun _=>rfl) (.int .i64 z1)
       have k3:=Kept.setCell (p:=⟨w.heap.size,2,none⟩) k2 (fun _=>rfl) (.slice zo zl zc)
       have k4:=Kept.setCell (p:=⟨w.heap.size,3,none⟩) k3 (fun _=>rfl) (.slice yo yl yc)
       have hM:leastD (WAt (fun b=>b<w.heap.size) w.heap.size L U a R wr)=2 * (n+1)+1:=HM.out.trans (by simp [mesT])
       have hI:IntsAt ((((w7.setCell ⟨w.heap.size,0,none⟩ (.int .i64 z0)).setCell ⟨w.heap.size,1,none⟩ (.int .i64 z1)).setCell ⟨w.heap.size,2,none⟩ (.slice zo zl zc)).setCell ⟨w.heap.size,3,none⟩ (.slice yo yl yc)) (some ⟨ub,uoff,none⟩) U:=(hu.out.same hk).kept k4 (fun a e f=>by have:=HU2.out a e;omega)
       have hR:=HR.out
       obtain ⟨N,hN,hlt⟩:∃ N,WAt (fun b=>b<w.heap.size) w.heap.size L U a R ((((w7.setCell ⟨w.heap.size,0,none⟩ (.int .i64 z0)).setCell ⟨w.heap.size,1,none⟩ (.int .i64 z1)).setCell ⟨w.heap.size,2,none⟩ (.slice zo zl zc)).setCell ⟨w.heap.size,3,none⟩ (.slice yo yl yc)) N∧N<2 * (n+1)+1:=by
        cases hkd:kidOf U[q] l with
        | none=>
         rw [hkd] at hz hR
         simp only [failV,Value.agg.injEq,Array.mk.injEq,List.cons.injEq,and_true,Value.int.injEq,Value.slice.injEq,true_and] at hz
         obtain ⟨rfl,rfl,⟨rfl,rfl,rfl⟩,rfl,rfl,rfl⟩:=hz
         exact ⟨2 * (n+1),⟨n+1,((3,0,[],[]):Int × Int × List Int × List (Int × Tr n)),_,_,_,_,by simp [mesT],s3,⟨none,0,none,0,rfl,⟨.inl rfl,Nat.le_refl _,fun _=>⟨rfl,rfl⟩,by simp⟩,.inl rfl,fun _=>rfl,Nat.le_refl _,.inl rfl⟩,⟨by simp,fun i h=>by simp at h⟩,by rw [hR];simp [goF]⟩,by omega⟩
        | some t' =>
         rw [hkd] at hz hR
         obtain ⟨i,hi,ei⟩:=kidOf_mem hkd
         have h9:=mesT_le n t'
         exact ⟨mesT n t', ⟨n,t', _,_,_,_,rfl,s3,CsB.kept k4 (fun b q f=>by omega) hz,by rw [← ei];exact hsk i hi,hR.symm⟩,by omega⟩
       refine ⟨⟨⟨N,hN⟩,hI,KT.out wr _ kw hk |>.trans k4 (fun _ _ z=>z)⟩,?_⟩
       rw [hM]
       exact Nat.lt_of_le_of_lt (HLD.out.2 _ _ hN) hlt
      clear hg hq h6 h2 h3 hb HC hu hd hcell
      go_upto_region 13 with (first | (go_at_call 47;refine D4.mono ?_;rintro e w5 ⟨rfl,k5⟩))
      have u5:=HCL.out w5 k5
      have D5:=C5.out w5 (KT.out wr w5 kw k5)
      go_upto_region 15 with (first | (go_at_call 31;refine D5.mono ?_;rintro e w6 ⟨rfl,k6⟩))
      have k16:=k5.trans' k6
      clear u5 c0 c1 c2 c3 q0 q1 q2 q3
      have u6:=HCL.out w6 k16
      obtain ⟨⟨d0,d1,d2,d3⟩,_⟩:=BXC.out w6 k16
      go_region_with (first | (go_at_call 49;refine (FO.out _ (by first | exact k16 | exact Kept.drewN k16 1)).mono ?_;rintro e w7 ⟨z0,z1,zo,zl,zc,yo,yl,yc,rfl,k7,hz⟩;obtain ⟨⟨v0,v1,v2,v3⟩,w0,w1,w2', w3'⟩:=BXC.out w7 (by first | exact k16.trans' k7 | exact Kept.trans (Kept.drewN k16 1) k7 (fun _ _ z=>z))))
      all_goals (go_wp2_with fail)
      all_goals exact FINZ.out w7 z0 z1 zo zl zc yo yl yc (by first | exact k16.trans' k7 | exact Kept.trans (Kept.drewN k16 1) k7 (fun _ _ z=>z)) hz
   ·have hke:(k == 2)=false:=by simpa using hk2
    by_cases hk1:k=1
    ·subst hk1
     have HR:Hid (R=(1,r,[],0,0)):=by show _=_;rw [← hg,goF,if_neg (by omega),if_pos rfl]
     obtain ⟨⟨r0,r1,r2,r3⟩,g0,g1,g2,g3⟩:=RC.out wr kw
     obtain ⟨y0,y1,y2,y3,kk,ks⟩:=PUT.out wr (.int .i64 1) (.int .i64 r) (.slice none 0 0) (.int .i64 0) kw
     have FIN:Hid (Same0 w _):=ks
     clear hg h6 h2 h3 hb HC hsk hu kk ks
     go_wp2_with fail
     exact bodyPost_ret (v:=.tuple #[.agg #[.int .i64 1,.int .i64 r,.slice none 0 0,.int .i64 0],.int .i64 0]) (by simp [results,Tryz.results15,go_sem,y0,y1,y2,y3]) rfl (by rw [HR.out];exact ⟨none,0,rfl,World.ownsRow_nil _ _ _ _,FIN.out⟩)
    ·have hke1:(k == 1)=false:=by simpa using hk1
     have HR:Hid (R=(2,0,[],0,0)):=by show _=_;rw [← hg,goF,if_neg hk2,if_neg hk1]
     obtain ⟨⟨r0,r1,r2,r3⟩,g0,g1,g2,g3⟩:=RC.out wr kw
     obtain ⟨y0,y1,y2,y3,kk,ks⟩:=PUT.out wr (.int .i64 2) (.int .i64 0) (.slice none 0 0) (.int .i64 0) kw
     have FIN:Hid (Same0 w _):=ks
     clear hg h6 h2 h3 hb HC hsk hu kk ks
     go_wp2_with fail
     exact bodyPost_ret (v:=.tuple #[.agg #[.int .i64 2,.int .i64 0,.slice none 0 0,.int .i64 0],.int .i64 0]) (by simp [results,Tryz.results15,go_sem,y0,y1,y2,y3]) rfl (by rw [HR.out];exact ⟨none,0,rfl,World.ownsRow_nil _ _ _ _,FIN.out⟩)
def wErr (L:List Sym) (T:List Int) (a:Int):Int:=if checkE L T≠0 then checkE L T else if T.any (fun x=>decide (x<0))=true then 22 else placeE L T a
set_option maxHeartbeats 8000000 in
theorem walk_err {w:World} {bs:Nat} {L:List Sym} (hs:Sg w.heap.size w bs L) (k r:Int) (po ko:Option Addr) (pl pc kl kc:Nat) {tto:Option Addr} {tc:Nat} {T:List Int} (ht:Arg w tto T tc) (a:Int) (he:wErr L T a≠0) :
  Calls Tryz.prog 15 #[.pointer (some ⟨bs,0,none⟩),.agg #[.int .i64 k,.int .i64 r,.slice po pl pc,.slice ko kl kc],.slice tto T.length tc,.int .i64 a] w (FdOut w (0,0,[],0,wErr L T a)):=by
 obtain ⟨W1,hW1⟩:∃ W1,W1=(w.alloc (.cells #[.int .i64 k,.int .i64 r,.slice po pl pc,.slice ko kl kc] 35)).alloc (.cells #[.int .i64 0,.int .i64 0,.slice none 0 0,.int .i64 0] 53):=⟨_,rfl⟩
 have KW:Same0 w W1:=by rw [hW1];exact ((Kept.refl _ w).alloc _).alloc _
 have ez:w.heap.size+1<W1.heap.size:=by rw [hW1];simp
 have SW:Hid (∀ ww,Kept (fun q=>q=w.heap.size) W1 ww→Same0 w ww):=fun ww hk=>Kept.trans KW hk (fun i hi e=>by omega)
 have RS:Hid (∀ ww,Kept (fun q=>q=w.heap.size) W1 ww→ww.heap[w.heap.size+1]? = some (.cells #[.int .i64 0,.int .i64 0,.slice none 0 0,.int .i64 0] 53 (0,0))):=fun ww hk=>hk.at (by rw [hW1];exact heap_al_al _ _ _) (fun e=>by omega)
 have RC:Hid (∀ ww,Kept (fun q=>q=w.heap.size) W1 ww→(ww.cell? ⟨w.heap.size+1,0,none⟩=some (.int .i64 0)∧ww.cell? ⟨w.heap.size+1,1,none⟩=some (.int .i64 0)∧ww.cell? ⟨w.heap.size+1,2,none⟩=some (.slice none 0 0)∧ww.cell? ⟨w.heap.size+1,3,none⟩=some (.int .i64 0))∧ww.frozen? ⟨w.heap.size+1,0,none⟩=false∧ww.frozen? ⟨w.heap.size+1,1,none⟩=false∧ww.frozen? ⟨w.heap.size+1,2,none⟩=false∧ww.frozen? ⟨w.heap.size+1,3,none⟩=false):=fun ww hk=>by
  have rs:=RS.out ww hk
  exact ⟨⟨cellAt rs 0,cellAt rs 1,cellAt rs 2,cellAt rs 3⟩,frozenAt rs 0,frozenAt rs 1,frozenAt rs 2,frozenAt rs 3⟩
 have PUT:Hid (∀ ww x0 x1 x2 x3,Kept (fun q=>q=w.heap.size) W1 ww→(((((ww.setCell ⟨w.heap.size+1,0,none⟩ x0).setCell ⟨w.heap.size+1,1,none⟩ x1).setCell ⟨w.heap.size+1,2,none⟩ x2).setCell ⟨w.heap.size+1,3,none⟩ x3)).cell? ⟨w.heap.size+1,0,none⟩=some x0∧(((((ww.setCell ⟨w.heap.size+1,0,none⟩ x0).setCell ⟨w.heap.size+1,1,none⟩ x1).setCell ⟨w.heap.size+1,2,none⟩ x2).setCell ⟨w.heap.size+1,3,none⟩ x3)).cell? ⟨w.heap.size+1,1,none⟩=some x1∧(((((ww.setCell ⟨w.heap.size+1,0,none⟩ x0).setCell ⟨w.heap.size+1,1,none⟩ x1).setCell ⟨w.heap.size+1,2,none⟩ x2).setCell ⟨w.heap.size+1,3,none⟩ x3)).cell? ⟨w.heap.size+1,2,none⟩=some x2∧(((((ww.setCell ⟨w.heap.size+1,0,none⟩ x0).setCell ⟨w.heap.size+1,1,none⟩ x1).setCell ⟨w.heap.size+1,2,none⟩ x2).setCell ⟨w.heap.size+1,3,none⟩ x3)).cell? ⟨w.heap.size+1,3,none⟩=some x3∧Kept (fun q=>q=w.heap.size+1) ww ((((ww.setCell ⟨w.heap.size+1,0,none⟩ x0).setCell ⟨w.heap.size+1,1,none⟩ x1).setCell ⟨w.heap.size+1,2,none⟩ x2).setCell ⟨w.heap.size+1,3,none⟩ x3)∧Same0 w ((((ww.setCell ⟨w.heap.size+1,0,none⟩ x0).setCell ⟨w.heap.size+1,1,none⟩ x1).setCell ⟨w.heap.size+1,2,none⟩ x2).setCell ⟨w.heap.size+1,3,none⟩ x3)):=by
  intro ww x0 x1 x2 x3 hk
  have rs:=RS.out ww hk
  have s3:=setAt (setAt (setAt (setAt rs 0 x0) 1 x1) 2 x2) 3 x3
  have k1:=Kept.setCell (p:=⟨w.heap.size+1,0,none⟩) (Kept.refl (fun q=>q=w.heap.size+1) ww) (fun _=>rfl) x0
  have k2:=Kept.setCell (p:=⟨w.heap.size+1,1,none⟩) k1 (fun _=>rfl) x1
  have k3:=Kept.setCell (p:=⟨w.heap.size+1,2,none⟩) k2 (fun _=>rfl) x2
  have k4:=Kept.setCell (p:=⟨w.heap.size+1,3,none⟩) k3 (fun _=>rfl) x3
  exact ⟨cellAt s3 0,cellAt s3 1,cellAt s3 2,cellAt s3 3,k4,Kept.trans (SW.out ww hk) k4 (fun i hi e=>by omega)⟩
 have hTl:=ht.size
 have C1:=check_any (cap:=tc) (sg_up (hs.same KW) KW.size) (ht.same KW).at' (by unfold maxLen;omega)
 have C2:Hid (∀ ww,Same0 W1 ww→Calls Tryz.prog 44 #[.slice tto T.length tc,.func (.func 45) #[] #[]] ww fun e w' => e=.returned (.bool (T.any (fun x=>decide (x<0))))∧w' = ww):=fun ww hk=>containsf_var (sc:=tc) ((ht.same KW).same hk).at' (by unfold maxLen;omega)
 have C3:Hid (∀ ww,Same0 W1 ww→Calls Tryz.prog 46 #[.pointer (some ⟨bs,0,none⟩),.slice tto T.length tc,.int .i64 a] ww fun e w' => ∃ uo ul uc,e=.returned (.tuple #[.slice uo ul uc,.int .i64 (placeE L T a)])∧Same0 ww w'):=fun ww hk=>by
  refine (sub_any (cap:=tc) (sg_up ((hs.same KW).same hk) (KW.trans' hk).size) ((ht.same KW).same hk).at' (by unfold maxLen;omega) ht.cap' a).mono ?_
  rintro e w' ⟨v,rfl,hr,k⟩
  obtain ⟨uo,uc,rfl,h1,_,h2⟩:=hr.ints
  exact ⟨uo,_,uc,rfl,k⟩
 by_cases hc:checkE L T≠0
 ·have e1:wErr L T a=checkE L T:=by rw [wErr,if_pos hc]
  rw [e1]
  have hce:(checkE L T == 0)=false:=by simpa using hc
  clear C2 C3 e1 he
  generalize checkE L T=E at *
  go_enter Tryz.func15,Tryz.ntmps15
  go_upto_region 1 with fail
  rw [← hW1]
  clear hW1
  go_wp2_with (first | (go_at_call 43;refine C1.mono ?_;rintro e w2 ⟨rfl,k2⟩;obtain ⟨⟨r0,r1,r2,r3⟩,g0,g1,g2,g3⟩:=RC.out w2 k2.mono'))
  obtain ⟨y0,y1,y2,y3,kk,ks⟩:=PUT.out w2 (.int .i64 0) (.int .i64 0) (.slice none 0 0) (.int .i64 0) k2.mono'
  exact bodyPost_ret (v:=.tuple #[.agg #[.int .i64 0,.int .i64 0,.slice none 0 0,.int .i64 0],.int .i64 E]) (by simp [results,Tryz.results15,go_sem,y0,y1,y2,y3]) rfl ⟨none,0,rfl,World.ownsRow_nil _ _ _ _,ks⟩
 ·have hc0:checkE L T=0:=by simpa using hc
  rw [hc0] at C1
  cases hv:T.any (fun x=>decide (x<0)) with
  | true=>
   have e1:wErr L T a=22:=by rw [wErr,if_neg hc,if_pos hv]
   rw [e1]
   rw [hv] at C2
   clear C3 e1 he hv hc hc0
   go_enter Tryz.func15,Tryz.ntmps15
   go_upto_region 1 with fail
   rw [← hW1]
   clear hW1
   go_upto_region 4 with (first | (go_at_call 43;refine C1.mono ?_;rintro e w2 ⟨rfl,k2⟩))
   have D2:=C2.out w2 k2
   obtain ⟨⟨r0,r1,r2,r3⟩,g0,g1,g2,g3⟩:=RC.out w2 k2.mono'
   go_wp2_with (first | (go_at_call 44;refine D2.mono ?_;rintro e w3 ⟨rfl,rfl⟩))
   obtain ⟨y0,y1,y2,y3,kk,ks⟩:=PUT.out w3 (.int .i64 0) (.int .i64 0) (.slice none 0 0) (.int .i64 0) k2.mono'
   exact bodyPost_ret (v:=.tuple #[.agg #[.int .i64 0,.int .i64 0,.slice none 0 0,.int .i64 0],.int .i64 22]) (by simp [results,Tryz.results15,go_sem,y0,y1,y2,y3]) rfl ⟨none,0,rfl,World.ownsRow_nil _ _ _ _,ks⟩
  | false=>
   have e1:wErr L T a=placeE L T a:=by rw [wErr,if_neg hc,if_neg (by rw [hv];simp)]
   rw [e1] at he ⊢
   rw [hv] at C2
   have hpe:(placeE L T a == 0)=false:=by simpa using he
   clear e1 he hv hc hc0
   generalize placeE L T a=E at *
   go_enter Tryz.func15,Tryz.ntmps15
   go_upto_region 1 with fail
   rw [← hW1]
   clear hW1
   go_upto_region 4 with (first | (go_at_call 43;refine C1.mono ?_;rintro e w2 ⟨rfl,k2⟩))
   have D2:=C2.out w2 k2
   go_upto_region 6 with (first | (go_at_call 44;refine D2.mono ?_;rintro e w3 ⟨rfl,rfl⟩))
   have D3:=C3.out w3 k2
   go_wp2_with (first | (go_at_call 46;refine D3.mono ?_;rintro e w4 ⟨uo,ul,uc,rfl,k4⟩;obtain ⟨⟨r0,r1,r2,r3⟩,g0,g1,g2,g3⟩:=RC.out w4 (k2.trans' k4).mono'))
   obtain ⟨y0,y1,y2,y3,kk,ks⟩:=PUT.out w4 (.int .i64 0) (.int .i64 0) (.slice none 0 0) (.int .i64 0) (k2.trans' k4).mono'
   exact bodyPost_ret (v:=.tuple #[.agg #[.int .i64 0,.int .i64 0,.slice none 0 0,.int .i64 0],.int .i64 E]) (by simp [results,Tryz.results15,go_sem,y0,y1,y2,y3]) rfl ⟨none,0,rfl,World.ownsRow_nil _ _ _ _,ks⟩
end Go.Proofs.YtfojfpnjnpkabaaGreat
namespace Go.Proofs.YtfojfpnjnpkabaaGreat
set_option maxRecDepth 100000
set_option linter.unusedVariables false
open Go.RowKit
section
variable {L : List Sym} {T : List Int} {a : Nat}
theorem sub_end (hT:IsT L T) (ha:a<T.length):a+(subN L T a).length=endN L T a∧endN L T a≤T.length:=by
 have h1:=endN_le hT ha
 rw [sub_length hT ha]
 omega
theorem drop_sub (hT:IsT L T) (ha:a<T.length) {p:Nat} (hp:p≤(subN L T a).length):T.drop (a+p)=(subN L T a).drop p++T.drop (endN L T a):=by
 obtain ⟨h1,h2⟩:=sub_end hT ha
 have e:T.drop (a+p)=(T.take (endN L T a)++T.drop (endN L T a)).drop (a+p):=by rw [List.take_append_drop]
 rw [e,List.drop_append_of_le_length (by rw [List.length_take];omega)]
 unfold subN
 rw [List.drop_drop]
theorem at_sub (hT:IsT L T) (ha:a<T.length) {p:Nat} (hp:p<(subN L T a).length) (hq:a+p<T.length):T[a+p]=(subN L T a)[p]:=by
 have e:=drop_sub hT ha (Nat.le_of_lt hp)
 rw [List.drop_eq_getElem_cons hq,List.drop_eq_getElem_cons hp] at e
 simpa using (List.cons.inj e).1
theorem end_sub (hT:IsT L T) (ha:a<T.length) {p:Nat} (hp:p<(subN L T a).length):endN L T (a+p)=a+endN L (subN L T a) p:=by
 obtain ⟨n,h1,h2,h3⟩:=isT_scan (sub_need hT ha) hp
 have h4:=scan_need h1
 have h5:=need_scan (b:=((subN L T a).drop p).drop n++T.drop (endN L T a)) h4.2
 have h6:scan L 1 (T.drop (a+p))=some n:=by
  rw [drop_sub hT ha (Nat.le_of_lt hp)]
  rw [← List.append_assoc,List.take_append_drop,List.length_take,Nat.min_eq_left h4.1] at h5
  exact h5
 rw [endN_of h1,endN_of h6]
 omega
theorem starts_sub (hT:IsT L T) (ha:a<T.length):∀ (k p q:Nat),Forest L (subN L T a) k p q→starts L T k (a+p)=(starts L (subN L T a) k p).map (fun x=>a+x)
 | 0,p,q,h=>rfl
 | k+1,p,q,h=>by
  obtain ⟨h1,h2,h3⟩:=h.succ
  have h4:=h1.le
  rw [starts,starts,List.map_cons,end_sub hT ha (by omega),starts_sub hT ha k _ q h3]
theorem leads_sub (hT:IsT L T) (ha:a<T.length):∀ (path:List Int) (p:Nat),p<(subN L T a).length→leads L T (a+p) path=(leads L (subN L T a) p path).map (fun x=>a+x)
 | [],p,hp=>by simp [leads]
 | n :: r,p,hp=>by
  have hU:=sub_need hT ha
  obtain ⟨h1,h2⟩:=sub_end hT ha
  have hq:a+p<T.length:=by omega
  have hf:=(Forest.one hU hp).kids.2
  rw [leads,leads]
  by_cases hn:n<0
  ·rw [if_pos hn,if_pos hn];rfl
  ·rw [if_neg hn,if_neg hn,argsN_eq hp,argsN_eq hq,at_sub hT ha hp hq,Nat.add_assoc,starts_sub hT ha _ _ _ hf,List.getElem?_map]
   cases hs:(starts L (subN L T a) (arN L (subN L T a)[p]) (p+1))[n.toNat]? with
   | none=>rfl
   | some q' =>
    have hlt:q' < (subN L T a).length:=by
     obtain ⟨g1,g2⟩:=List.getElem?_eq_some_iff.1 hs
     rw [starts_length] at g1
     rw [starts_at g1] at hs
     cases hs
     exact past_lt hU hp g1
    exact leads_sub hT ha r q' hlt
end
end Go.Proofs.YtfojfpnjnpkabaaGreat
namespace Go.Proofs.YtfojfpnjnpkabaaGreat
set_option linter.unusedVariables false
open Go.RowKit
attribute [local go_sem ↓] Go.wp_at_zero Go.wp_at_succ
theorem Row.get {base:Nat} {w:World} {v:Value} {xs:List Int} (h:Row base w v xs) {i:Nat} (hi:i<xs.length):∃ g cap,v=.slice (some ⟨g,0,none⟩) xs.length cap∧g<w.heap.size∧w.cell? ⟨g,i,none⟩=some (.int .i64 xs[i]):=by
 obtain ⟨g,cap,hv,_,hlt⟩:=h.form (by omega)
 subst hv
 exact ⟨g,cap,rfl,hlt,(h.cellAt i (by omega)).trans (iv_get hi)⟩
def leadRA (L:List Sym) (t:List Int) (a:Nat) (path:List Int):Int:=match leads L t a path with | some q=>(q:Int) | none=>-1
theorem leads_badA {L:List Sym} {t path:List Int} {a q k:Nat} (h:leads L t a path=leads L t q (path.drop k)) (hk:k<path.length) (hq:q<t.length) (hn:path[k]<0∨(arN L t[q]:Int)≤path[k]):leads L t a path=none:=by
 rw [h,List.drop_eq_getElem_cons hk,leads]
 split
 ·rfl
 ·rw [argsN_eq hq,List.getElem?_eq_none (by rw [starts_length];omega)]
theorem leads_goodA {L:List Sym} {t path:List Int} {a q k i:Nat} (h:leads L t a path=leads L t q (path.drop k)) (hk:k<path.length) (hq:q<t.length) (hi:path[k]=(i:Int)) (hn:i<arN L t[q]):leads L t a path=leads L t (past L t i (q+1)) (path.drop (k+1)):=by
 rw [h,List.drop_eq_getElem_cons hk,leads,hi,if_neg (by omega),argsN_eq hq]
 simp only [Int.toNat_natCast]
 rw [starts_at hn]
set_option maxHeartbeats 4000000 in
theorem rfromA_any {n:Nat} {w:World} {rv:Value} {L:List Sym} (h:Rl n w rv L) {ao po:Option Addr} {cap pcap:Nat} {t path:List Int} (ht:IntsAt w ao t) (hm:t.length≤2000) (hT:IsT L t) {a:Nat} (ha:a<t.length) (hp:IntsAt w po path) (hpm:path.length≤maxLen) :
  Calls Tryz.prog 79 #[rv,.slice ao t.length cap,.int .i64 (a:Int),.slice po path.length pcap] w fun e w' => e=.returned (.int .i64 (leadRA L t a path))∧Same0 w w' := by
 unfold maxLen at hpm
 have c1:∀ w1 q,Same0 w w1→q<t.length→Calls Tryz.prog 100 #[rv,.slice ao t.length cap,.int .i64 (q:Int)] w1 fun e w' => ∃ v,e=.returned v∧Row w1.heap.size w' v (ofN (argsN L t q))∧Same0 w1 w' := fun w1 q hk hq=>rargs_any (cap:=cap) (h.same hk) (ht.same hk) hm hT q hq
 obtain ⟨ro,rcap,rfl⟩:=row_shape h.1
 go_enter Tryz.func79,Tryz.ntmps79
 go_wp2
 go_loopw [2,9] (fun at' i wr=>∃ k q:Nat,k≤path.length∧i=.int .i64 (k:Int)∧at' = .int .i64 (q:Int)∧q<t.length∧Hid (leads L t a path=leads L t q (path.drop k))∧Same0 w wr) (fun _ i _=>path.length-(intOf i).toNat)
 case atStart=>exact ⟨0,a,Nat.zero_le _,rfl,rfl,ha,by simp [Hid],Kept.refl _ _⟩
 case round=>
  obtain ⟨k,q,hk,rfl,rfl,hq,HL,hs⟩:=hrel
  by_cases hlt:k<path.length
  ·have cA:=c1 _ _ hs hq
   obtain ⟨pb,poff,rfl,hpb,hpc⟩:=(hp.same hs).get hlt
   have i1:(0:Int)≤(k:Int):=by omega
   have i2:(k:Int)<(path.length:Int):=by omega
   have hlen:(ofN (argsN L t q)).length=arN L t[q]:=by rw [argsN_eq hq];simp [ofN,starts_length]
   clear c1
   go_wp2_with fail
   refine cA.mono ?_
   rintro e w2 ⟨v,rfl,hr,hk2⟩
   have hpc2:w2.cell? ⟨pb,poff+k,none⟩=some (.int .i64 path[k]):=(hk2.cell (p:=⟨pb,poff+k,none⟩) hpb (fun f=>f)).trans hpc
   have hs2:=hs.trans' hk2
   clear cA hpc
   by_cases hn0:path[k]<0
   ·have H:Hid (leadRA L t a path = -1):=by
     have:=leads_badA HL.out hlt hq (.inl hn0)
     simp [leadRA,this,Hid]
    obtain ⟨vo,vcap,rfl⟩:=row_shape hr
    go_wp2
    go_ret
    exact ⟨ret_int H.out.symm,hs2⟩
   ·by_cases hna:(arN L t[q]:Int)≤path[k]
    ·have H:Hid (leadRA L t a path = -1):=by
      have:=leads_badA HL.out hlt hq (.inr hna)
      simp [leadRA,this,Hid]
     obtain ⟨vo,vcap,rfl⟩:=row_shape hr
     have hna' : ((ofN (argsN L t q)).length:Int)≤path[k]:=by omega
     go_wp2
     go_ret
     exact ⟨ret_int H.out.symm,hs2⟩
    ·obtain ⟨i,hi⟩:∃ i:Nat,path[k]=(i:Int):=⟨path[k].toNat,by omega⟩
     have hia:i<arN L t[q]:=by omega
     have HN:Hid (leads L t a path=leads L t (past L t i (q+1)) (path.drop (k+1))):=leads_goodA HL.out hlt hq hi hia
     have hpl:=past_lt hT hq hia
     obtain ⟨g,vcap,rfl,hg,hgc⟩:=hr.get (i:=i) (by omega)
     have hge:(ofN (argsN L t q))[i]'(by omega)=((past L t i (q+1):Nat):Int):=by
      have e1:=starts_at (L:=L) (t:=t) (p:=q+1) hia
      rw [← argsN_eq hq] at e1
      have e2:=(List.getElem?_eq_some_iff.1 e1).2
      simp [ofN,e2]
     rw [hge] at hgc
     rw [hi] at hpc2
     have j1:(0:Int)≤(i:Int):=by omega
     have j2:(i:Int)<((ofN (argsN L t q)).length:Int):=by omega
     have j3:¬ (ofN (argsN L t q)).length≤i:=by omega
     have j4:decide ((ofN (argsN L t q)).length≤i)=false:=by simp;omega
     clear hge hn0 hna HL hi
     generalize (ofN (argsN L t q)).length=N at *
     generalize past L t i (q+1)=P at *
     go_wp2
     exact ⟨⟨k+1,P,by omega,by go_num,rfl,hpl,HN,hs2⟩,by simp [intOf];omega⟩
  ·have H:Hid (leadRA L t a path=(q:Int)):=by
    have:=HL.out
    rw [List.drop_eq_nil_of_le (by omega)] at this
    simp [leadRA,this,leads,Hid]
   clear c1
   go_wp2
   go_ret
   exact ⟨ret_int H.out.symm,hs⟩
theorem row_take {w:World} {base g n cap size m:Nat} {e:TypeId} {xs:List Value} (h:w.ownsRow base e size (.slice (some ⟨g,0,none⟩) n cap) n xs) (hm:m≤n):w.ownsRow base e size (.slice (some ⟨g,0,none⟩) m cap) m (xs.take (m * size)):=by
 have hl:=h.1
 have hmn:m * size≤n * size:=Nat.mul_le_mul_right _ hm
 refine ⟨by rw [List.length_take,hl];omega,?_⟩
 rcases h.2 with ⟨e1,_⟩ | ⟨g', cap', cur,hv,hb,hg,h1,h2,h3,h4⟩
 ·cases e1
 ·simp only [Value.slice.injEq,Option.some.injEq,Addr.mk.injEq,and_true,true_and] at hv
  obtain ⟨rfl,rfl⟩:=hv
  exact .inr ⟨g,cap,cur,rfl,hb,hg,by omega,h2,h3,by rw [← h4,List.take_take,Nat.min_eq_left hmn]⟩
structure Sought (w wr:World) (ov:Value) (ao:Option Addr) (args:List Int) (out:List Int):Prop where
 row:Row w.heap.size wr ov out
 at' : IntsAt wr ao args
 ne:∀ a,ao=some a→ov.ownBlock≠some a.block
 lt:∀ a,ao=some a→a.block<wr.heap.size
 s:Same0 w wr
def OutAt (base:Nat) (w:World) (ov:Value) (xss:List (List Int)):Prop:=∃ cs,w.ownsRow base 47 1 ov xss.length cs∧∀ j (h:j<xss.length),∃ v,cs[j]? = some v∧Row base w v xss[j]∧∀ k,v.ownBlock=some k→ov.ownBlock≠some k
theorem OutAt.nil (base:Nat) (w:World):OutAt base w (.slice none 0 0) []:=⟨[],World.ownsRow_nil _ _ _ _,fun j hj=>by simp at hj⟩
theorem wpList_more' {w0:World} {ops:Array Oper} {rest:List Oper} {o:Oper} {a:Act} {Q:Exit→Act→World→Prop} (hgd:o.guard=none) (s x:Operand) (t:TypeId)
  (ho:o.op=.call { callee:=.builtin .append,args:=#[s,x],argTypes:=#[t,t] }) (ht:Tryz.prog.underlying t=some (.slice 3))
  (base:Nat) (xs:List Int) (v:Value) (hs:a.eval s=v) (hr:Row base w0 v xs) (ys:List Int) (ao:Option Addr) (m c:Nat) (hx:a.eval x=.slice ao m c) (hm:m=ys.length) (hy:IntsAt w0 ao ys) (hnil:ao=none→ys.length=0∧c=0) (hb:base≤w0.heap.size) (hsz:(xs.length+ys.length) * 8≤140737488355328)
  (h:∀ v' w', Row base w' v' (xs++ys)→Kept (fun k=>v.ownBlock=some k) w0 w' → wpList Tryz.prog ops Q rest (a.put o.dst v') w') :
  wpList Tryz.prog ops Q (o :: rest) a w0:=by
 cases ao with
 | none=>
  obtain ⟨h1,rfl⟩:=hnil rfl
  have:ys=[]:=List.eq_nil_of_length_eq_zero h1
  subst this
  subst hm
  obtain ⟨i,hi,hz0,hz1,hz2⟩:=info_parts info_intT
  exact wpList_append_own_none hgd s x t ho base 3 i 1 ht hi v xs.length (iv xs) hs hr hx (h v w0 (by simpa using hr) (Kept.refl _ _))
 | some ad=>exact wpList_more hgd s x t ho ht base xs v hs hr ys ad m c hx hm hy hb hsz h
end Go.Proofs.YtfojfpnjnpkabaaGreat
