import Derived.Test.YtfojfpnjnpkabaaGreatGB17
import Derived.Test.YtfojfpnjnpkabaaGreatGB06
import Derived.Test.YtfojfpnjnpkabaaGreatGB15
import Derived.Deep.RegionLaw
import Derived.Deep.AppendLies
namespace Go.Proofs.YtfojfpnjnpkabaaGreat
set_option maxRecDepth 100000
set_option linter.unusedVariables false
open Go.RowKit
attribute [local go_sem ↓] Go.wp_at_zero Go.wp_at_succ
def NX {α:Type} (s:Int) (l:List (Int × α)) (j:Nat) (next:Int):Prop:=(next = -1∧∀ i (h:i<l.length),j≤i→l[i].1≠s)∨(∃ m,∃ h:m<l.length,next=(m:Int)∧j≤m∧l[m].1=s∧∀ i (h:i<l.length),j≤i→i<m→l[i].1≠s)
theorem NX.end {α:Type} {s:Int} {l:List (Int × α)}:NX s l l.length (-1):=.inl ⟨rfl,fun i h hi=>by omega⟩
theorem NX.hit {α:Type} {s:Int} {l:List (Int × α)} {j:Nat} (h:j<l.length) (e:l[j].1=s):NX s l j (j:Int):=.inr ⟨j,h,rfl,Nat.le_refl _,e,fun i _ h1 h2=>by omega⟩
theorem NX.miss {α:Type} {s:Int} {l:List (Int × α)} {j:Nat} {next:Int} (h:j<l.length) (e:l[j].1≠s) (hx:NX s l (j+1) next):NX s l j next:=by
 rcases hx with ⟨h1,h2⟩ | ⟨m,hm,h1,h2,h3,h4⟩
 ·exact .inl ⟨h1,fun i hi hj=>by
   by_cases ei:i=j
   ·subst ei;exact e
   ·exact h2 i hi (by omega)⟩
 ·exact .inr ⟨m,hm,h1,by omega,h3,fun i hi hj hlt=>by
   by_cases ei:i=j
   ·subst ei;exact e
   ·exact h4 i hi (by omega) hlt⟩
theorem NX.kid {α:Type} {s:Int} {l:List (Int × α)} {next:Int} (hx:NX s l 0 next):(next = -1∧kidOf s l=none)∨(∃ m,∃ h:m<l.length,next=(m:Int)∧kidOf s l=some l[m].2):=by
 rcases hx with ⟨h1,h2⟩ | ⟨m,hm,h1,h2,h3,h4⟩
 ·exact .inl ⟨h1,kidOf_none (fun i hi=>h2 i hi (Nat.zero_le _))⟩
 ·exact .inr ⟨m,hm,h1,kidOf_at hm h3 (fun i hi hlt=>h4 i hi (Nat.zero_le _) hlt)⟩
set_option maxHeartbeats 8000000 in
theorem rgo_any {w:World} {m:Nat} {rv:Value} {L:List Sym} (hs:Rl m w rv L) {n:Nat} {v:Value} {t:Tr n} (h:CsB (fun b=>b<w.heap.size) w n v t) (hsm:SmW n t) {tto:Option Addr} {tc:Nat} {T:List Int} (ht:IntsAt w tto T) (hTl:T.length≤2000) (hT:IsT L T) {a:Nat} (ha:a<T.length) :
  Calls Tryz.prog 51 #[rv,v,.slice tto T.length tc,.int .i64 (a:Int)] w (FdOut w (goF L (subN L T a) a n t)):=by
 obtain ⟨k,r,po,pl,pc,ko,kl,kc,rfl⟩:=h.shape
 obtain ⟨ro,rcap,rfl⟩:=row_shape hs.1
 have hUT:=sub_need hT ha
 obtain ⟨hue,hul⟩:=sub_end hT ha
 obtain ⟨W1,hW1⟩:∃ W1,W1=(w.alloc (.cells #[.int .i64 k,.int .i64 r,.slice po pl pc,.slice ko kl kc] 35)).alloc (.cells #[.int .i64 0,.int .i64 0,.slice none 0 0,.int .i64 0] 53):=⟨_,rfl⟩
 have KW:Same0 w W1:=by rw [hW1];exact ((Kept.refl _ w).alloc _).alloc _
 have ez:w.heap.size+1<W1.heap.size:=by rw [hW1];simp
 have b0:W1.heap[w.heap.size]? = some (.cells #[.int .i64 k,.int .i64 r,.slice po pl pc,.slice ko kl kc] 35 (0,0)):=by rw [hW1];exact heap_alloc2_old _ _ _
 have SW:Hid (∀ ww,Kept (fun q=>q=w.heap.size) W1 ww→Same0 w ww):=fun ww hk=>Kept.trans KW hk (fun i hi e=>by omega)
 have RS:Hid (∀ ww,Kept (fun q=>q=w.heap.size) W1 ww→ww.heap[w.heap.size+1]? = some (.cells #[.int .i64 0,.int .i64 0,.slice none 0 0,.int .i64 0] 53 (0,0))):=fun ww hk=>hk.at (by rw [hW1];exact heap_al_al _ _ _) (fun e=>by omega)
 have RC:Hid (∀ ww,Kept (fun q=>q=w.heap.size) W1 ww→(ww.cell? ⟨w.heap.size+1,0,none⟩=some (.int .i64 0)∧ww.cell? ⟨w.heap.size+1,1,none⟩=some (.int .i64 0)∧ww.cell? ⟨w.heap.size+1,2,none⟩=some (.slice none 0 0)∧ww.cell? ⟨w.heap.size+1,3,none⟩=some (.int .i64 0))∧ww.frozen? ⟨w.heap.size+1,0,none⟩=false∧ww.frozen? ⟨w.heap.size+1,1,none⟩=false∧ww.frozen? ⟨w.heap.size+1,2,none⟩=false∧ww.frozen? ⟨w.heap.size+1,3,none⟩=false):=fun ww hk=>by
  have rs:=RS.out ww hk
  exact ⟨⟨cellAt rs 0,cellAt rs 1,cellAt rs 2,cellAt rs 3⟩,frozenAt rs 0,frozenAt rs 1,frozenAt rs 2,frozenAt rs 3⟩
 have PUT:Hid (∀ ww x0 x1 x2 x3,Kept (fun q=>q=w.heap.size) W1 ww→(((((ww.setCell ⟨w.heap.size+1,0,none⟩ x0).setCell ⟨w.heap.size+1,1,none⟩ x1).setCell ⟨w.heap.size+1,2,none⟩ x2).setCell ⟨w.heap.size+1,3,none⟩ x3)).cell? ⟨w.heap.size+1,0,none⟩=some x0∧(((((ww.setCell ⟨w.heap.size+1,0,none⟩ x0).setCell ⟨w.heap.size+1,1,none⟩ x1).setCell ⟨w.heap.size+1,2,none⟩ x2).setCell ⟨w.heap.size+1,3,none⟩ x3)).cell? ⟨w.heap.size+1,1,none⟩=some x1∧(((((ww.setCell ⟨w.heap.size+1,0,none⟩ x0).setCell ⟨w.heap.size+1,1,none⟩ x1).setCell ⟨w.heap.size+1,2,none⟩ x2).setCell ⟨w.heap.size+1,3,none⟩ x3)).cell? ⟨w.heap.size+1,2,none⟩=some x2∧(((((ww.setCell ⟨w.heap.size+1,0,none⟩ x0).setCell ⟨w.heap.size+1,1,none⟩ x1).setCell ⟨w.heap.size+1,2,none⟩ x2).setCell ⟨w.heap.size+1,3,none⟩ x3)).cell? ⟨w.heap.size+1,3,none⟩=some x3∧Kept (fun q=>q=w.heap.size+1) ww ((((ww.setCell ⟨w.heap.size+1,0,none⟩ x0).setCell ⟨w.heap.size+1,1,none⟩ x1).setCell ⟨w.heap.size+1,2,none⟩ x2).setCell ⟨w.heap.size+1,3,none⟩ x3)∧Same0 w ((((ww.setCell ⟨w.heap.size+1,0,none⟩ x0).setCell ⟨w.heap.size+1,1,none⟩ x1).setCell ⟨w.heap.size+1,2,none⟩ x2).setCell ⟨w.heap.size+1,3,none⟩ x3)):=by
  intro ww x0 x1 x2 x3 hk
  have rs:=RS.out ww hk
  have s3:=setAt (setAt (setAt (setAt rs 0 x0) 1 x1) 2 x2) 3 x3
  have k1:=Kept.setCell (p:=⟨w.heap.size+1,0,none⟩) (Kept.refl (fun q=>q=w.heap.size+1) ww) (fun _=>rfl) x0
  have k2:=Kept.setCell (p:=⟨w.heap.size+1,1,none⟩) k1 (fun _=>rfl) x1
  have k3:=Kept.setCell (p:=⟨w.heap.size+1,2,none⟩) k2 (fun _=>rfl) x2
  have k4:=Kept.setCell (p:=⟨w.heap.size+1,3,none⟩) k3 (fun _=>rfl) x3
  exact ⟨cellAt s3 0,cellAt s3 1,cellAt s3 2,cellAt s3 3,k4,Kept.trans (SW.out ww hk) k4 (fun i hi e=>by omega)⟩
 have HF:Hid (∀ ww,Kept (fun q=>q=w.heap.size) W1 ww→∀ (po:Option Addr) (pc:Nat) (p:List Int),Arg ww po p pc→Calls Tryz.prog 79 #[.slice ro L.length rcap,.slice tto T.length tc,.int .i64 (a:Int),.slice po p.length pc] ww fun e w' => e=.returned (.int .i64 (match leads L (subN L T a) 0 p with | some q=>((a+q:Nat):Int) | none=>-1))∧Same0 ww w'):=fun ww hk po pc p hp=>by
  have k0:=SW.out ww hk
  have h1:=rfromA_any (cap:=tc) (pcap:=pc) (hs.same k0) (ht.same k0) hTl hT ha hp.at' (by have:=hp.size;unfold maxLen;omega)
  have h2:=leads_sub hT ha p 0 (isT_pos hUT)
  rw [Nat.add_zero] at h2
  unfold leadRA at h1
  rw [h2] at h1
  cases hq:leads L (subN L T a) 0 p with
  | none=>rw [hq] at h1;exact h1
  | some q=>rw [hq] at h1;exact h1
 have HD:Hid (∀ ww,Kept (fun q=>q=w.heap.size) W1 ww→∀ x,Calls Tryz.prog 22 #[.slice ro L.length rcap,.int .i64 x] ww fun e w' => e=.returned (.bool (defB L x))∧w' = ww):=fun ww hk x=>rdef_any (hs.same (SW.out ww hk)) x
 have HT:Hid (∀ ww,Kept (fun q=>q=w.heap.size) W1 ww→∀ q (hq:q<(subN L T a).length),∃ tb toff,tto=some ⟨tb,toff,none⟩∧ww.cell? ⟨tb,toff+(a+q),none⟩=some (.int .i64 (subN L T a)[q])):=fun ww hk q hq=>by
  obtain ⟨tb,toff,e,_,h1⟩:=(ht.same (SW.out ww hk)).get (i:=a+q) (by omega)
  exact ⟨tb,toff,e,by rw [h1,at_sub hT ha hq]⟩
 have hw0:WAt (fun b=>b<w.heap.size) w.heap.size L (subN L T a) a (goF L (subN L T a) a n t) W1 (mesT n t):=⟨n,t,_,_,_,_,rfl,b0,h.same KW,hsm,rfl⟩
 generalize goF L (subN L T a) a n t=R at *
 generalize subN L T a=U at *
 have HUT:Hid (IsT L U∧a+U.length≤T.length∧T.length≤2000):=⟨hUT,by omega,hTl⟩
 have HW0:Hid (∃ N,WAt (fun b=>b<w.heap.size) w.heap.size L U a R W1 N):=⟨_,hw0⟩
 have KT:Hid (∀ ww w5,Kept (fun q=>q=w.heap.size) W1 ww→Same0 ww w5→Kept (fun q=>q=w.heap.size) W1 w5):=fun ww w5 h1 h2=>Kept.trans h1 h2.mono' (fun _ _ z=>z)
 clear hw0 b0 hUT hue hul hT hs h hsm ht hTl
 go_enter Tryz.func51,Tryz.ntmps51
 go_upto_region 1 with fail
 rw [← hW1]
 clear hW1
 obtain ⟨leastD,HLD⟩:∃ f:(Nat→Prop)→Nat,Hid ((∀ P:Nat→Prop,(∃ n,P n)→P (f P))∧∀ (P:Nat→Prop) n,P n→f P≤n):=least_fun
 go_loopw [] (fun wr=>Hid (∃ N,WAt (fun b=>b<w.heap.size) w.heap.size L U a R wr N)∧Kept (fun q=>q=w.heap.size) W1 wr) (fun wr=>leastD (WAt (fun b=>b<w.heap.size) w.heap.size L U a R wr))
 case atStart=>exact ⟨HW0,Kept.refl _ _⟩
 case round=>
  clear HW0
  obtain ⟨hN,kw⟩:=hrel
  obtain ⟨n,t,x0,x1,x2,x3,hm,hb,hcs,hsm,hg⟩:=HLD.out.1 _ hN.out
  have HM:Hid (leastD (WAt (fun b=>b<w.heap.size) w.heap.size L U a R wr)=mesT n t):=hm.symm
  clear hm hN
  cases n with
  | zero=>exact hcs.elim
  | succ n=>
   obtain ⟨k,r,p,l⟩:=t
   have HC:Hid (CsB (fun b=>b<w.heap.size) wr (n+1) (.agg #[x0,x1,x2,x3]) (k,r,p,l)):=hcs
   obtain ⟨po,pc,ko,kc,e,h2,h3,h4,h5,h6⟩:=hcs
   simp only [Value.agg.injEq,Array.mk.injEq,List.cons.injEq,and_true] at e
   obtain ⟨rfl,rfl,rfl,rfl⟩:=e
   obtain ⟨hl9,hsk⟩:=hsm
   have c0:=cellAt hb 0
   have c1:=cellAt hb 1
   have c2:=cellAt hb 2
   have c3:=cellAt hb 3
   simp only [List.getElem?_toArray,List.getElem?_cons_zero,List.getElem?_cons_succ] at c0 c1 c2 c3
   by_cases hk1:k=1
   ·subst hk1
    have HR:Hid (R=(1,r,[],0,0)):=by show _=_;rw [← hg,goF,if_neg (by omega),if_pos rfl]
    obtain ⟨⟨r0,r1,r2,r3⟩,g0,g1,g2,g3⟩:=RC.out wr kw
    obtain ⟨y0,y1,y2,y3,kk,ks⟩:=PUT.out wr (.int .i64 1) (.int .i64 r) (.slice none 0 0) (.int .i64 0) kw
    have FIN:Hid (Same0 w _):=ks
    clear hg h6 h2 h3 hb HC hsk kk ks
    go_wp2_with fail
    exact bodyPost_ret (v:=.tuple #[.agg #[.int .i64 1,.int .i64 r,.slice none 0 0,.int .i64 0],.int .i64 0]) (by simp [results,Tryz.results51,go_sem,y0,y1,y2,y3]) rfl (by rw [HR.out];exact ⟨none,0,rfl,World.ownsRow_nil _ _ _ _,FIN.out⟩)
   ·have hke1:(k == 1)=false:=by simpa using hk1
    by_cases hk2:k=2
    ·subst hk2
     have D4:=HF.out wr kw po pc p h2
     have BXC:Hid (∀ ww,Same0 wr ww→(ww.cell? ⟨w.heap.size,0,none⟩=some (.int .i64 2)∧ww.cell? ⟨w.heap.size,1,none⟩=some (.int .i64 r)∧ww.cell? ⟨w.heap.size,2,none⟩=some (.slice po p.length pc)∧ww.cell? ⟨w.heap.size,3,none⟩=some (.slice ko l.length kc))∧ww.frozen? ⟨w.heap.size,0,none⟩=false∧ww.frozen? ⟨w.heap.size,1,none⟩=false∧ww.frozen? ⟨w.heap.size,2,none⟩=false∧ww.frozen? ⟨w.heap.size,3,none⟩=false):=fun ww hk=>by
      have h1:=hk.at0 hb
      exact ⟨⟨cellAt h1 0,cellAt h1 1,cellAt h1 2,cellAt h1 3⟩,frozenAt h1 0,frozenAt h1 1,frozenAt h1 2,frozenAt h1 3⟩
     cases hq:leads L U 0 p with
     | none=>
      rw [hq] at D4
      have HR:Hid (R=(0,0,[],0,25)):=by show _=_;rw [← hg,goF,if_pos rfl,hq]
      clear hg hq h6 h2 h3 hb HC hsk
      go_wp2_with (first | (go_at_call 79;refine D4.mono ?_;rintro e w5 ⟨rfl,k5⟩;obtain ⟨⟨r0,r1,r2,r3⟩,g0,g1,g2,g3⟩:=RC.out w5 (KT.out wr w5 kw k5)))
      obtain ⟨y0,y1,y2,y3,kk,ks⟩:=PUT.out w5 (.int .i64 0) (.int .i64 0) (.slice none 0 0) (.int .i64 0) (KT.out wr w5 kw k5)
      exact bodyPost_ret (v:=.tuple #[.agg #[.int .i64 0,.int .i64 0,.slice none 0 0,.int .i64 0],.int .i64 25]) (by simp [results,Tryz.results51,go_sem,y0,y1,y2,y3]) rfl (by rw [HR.out];exact ⟨none,0,rfl,World.ownsRow_nil _ _ _ _,ks⟩)
     | some q=>
      rw [hq] at D4
      have hql:q<U.length:=leads_lt HUT.out.1 p 0 (isT_pos HUT.out.1) q hq
      have hgd:U.getD q 0=U[q]:=by simp [hql]
      obtain ⟨tb,toff,rfl,_⟩:=HT.out wr kw q hql
      obtain ⟨Q,hQ⟩:∃ Q:Nat,Q=a+q:=⟨_,rfl⟩
      have HCL:Hid (∀ ww,Same0 wr ww→ww.cell? ⟨tb,toff+Q,none⟩=some (.int .i64 U[q])):=fun ww hk=>by
       obtain ⟨tb', toff', e,h1⟩:=HT.out ww (KT.out wr ww kw hk) q hql
       cases e
       rw [hQ]
       exact h1
      have i1:(0:Int)≤(Q:Int):=by omega
      have i2:(Q:Int)<(T.length:Int):=by have:=HUT.out.2.1;omega
      have i3:¬ (Q:Int)<0:=by omega
      replace D4:Calls Tryz.prog 79 #[.slice ro L.length rcap,.slice (some ⟨tb,toff,none⟩) T.length tc,.int .i64 (a:Int),.slice po p.length pc] wr fun e w' => e=.returned (.int .i64 (Q:Int))∧Same0 wr w' := by rw [hQ];exact D4
      cases hd:defB L U[q] with
      | true=>
       have HR:Hid (R=(3,0,p,(Q:Int),0)):=by show _=_;rw [← hg,goF,if_pos rfl,hq,hQ];simp only [hgd,hd,if_true];simp
       have ROWF:Hid (∀ w5 w7 ww co cc,Same0 wr w5→Row w5.heap.size w7 (.slice co p.length cc) p→Kept (fun q=>q=w.heap.size+1) w7 ww→Row w.heap.size ww (.slice co p.length cc) p):=fun w6 w7 ww co cc k6 r7 kk=>by
        have z6:=k6.size
        have z5:=kw.size
        refine row_mono (kk.row r7 (fun k e f=>?_)) (by omega)
        obtain ⟨o1,o2,e1,_,_,o3⟩:=Row.ints r7
        cases e1
        cases co with
        | none=>simp [Value.ownBlock] at e
        | some a=>simp only [Value.ownBlock,Option.some.injEq] at e;have:=(o3 a rfl).1;omega
       have D5:Hid (∀ w5,Same0 wr w5→Calls Tryz.prog 22 #[.slice ro L.length rcap,.int .i64 U[q]] w5 fun e w' => e=.returned (.bool true)∧w' = w5):=fun w5 hk=>by rw [← hd];exact HD.out w5 (KT.out wr w5 kw hk) _
       have HP:Hid (∀ w5 o,Same0 wr w5→IntsAt (w5.alloc o) po p):=fun w5 o hk=>(h2.same (Kept.alloc hk o)).at'
       have HPN:=h2.nil
       have HPS:=h2.size
       have HSH:Hid (∀ (w5:World) (v7:Value) (w7:World),Row w5.heap.size w7 v7 ([]++p)→∃ co cc,v7=.slice co p.length cc∧Hid (Row w5.heap.size w7 (.slice co p.length cc) p)):=fun w5 v7 w7 r7=>by
        rw [List.nil_append] at r7
        obtain ⟨co,cc,rfl⟩:=row_shape r7
        exact ⟨co,cc,rfl,r7⟩
       clear hg hq h6 h2 h3 hb HC hsk hd
       clear hQ
       have SK:Hid (∀ w6 w7,Same0 wr w6→Kept (fun k=>(Value.slice (some ⟨w6.heap.size,0,none⟩) 0 0).ownBlock=some k) (w6.alloc (.cells #[] 3)) w7→Same0 wr w7):=fun w6 w7 h1 h2=>Kept.trans (Kept.alloc h1 _) h2 (fun i hi e=>by have:=h1.size;simp only [Value.ownBlock,Option.some.injEq] at e;omega)
       go_upto_region 8 with (first | (go_at_call 79;refine D4.mono ?_;rintro e w5 ⟨rfl,k5⟩))
       have u5:=HCL.out w5 k5
       have E5:=D5.out w5 k5
       go_upto_region 10 with (first | (go_at_call 22;refine E5.mono ?_;rintro e w6 ⟨rfl,rfl⟩))
       obtain ⟨⟨d0,d1,d2,d3⟩,_⟩:=BXC.out (w6.alloc (.cells #[] 3)) (Kept.alloc k5 _)
       go_wp2_with (first | (at_builtin;refine wpList_more' rfl _ _ 32 rfl Tryz.underlying32 w6.heap.size [] (.slice (some ⟨w6.heap.size,0,none⟩) 0 0) rfl (row_empty w6 _ (Nat.le_refl _) rfl) p po p.length pc rfl rfl (HP.out w6 _ k5) HPN (by simp) (by simp;omega) ?_;intro v7 w7 r7 k7;obtain ⟨co,cc,rfl,R7⟩:=HSH.out w6 v7 w7 r7;have k67:=SK.out w6 w7 k5 k7;obtain ⟨⟨r0,r1,r2,r3⟩,f0,f1,f2,f3⟩:=RC.out w7 (KT.out wr w7 kw k67)))
       obtain ⟨y0,y1,y2,y3,kk,ks⟩:=PUT.out w7 (.int .i64 3) (.int .i64 0) (.slice co p.length cc) (.int .i64 (Q:Int)) (KT.out wr w7 kw k67)
       exact bodyPost_ret (v:=.tuple #[.agg #[.int .i64 3,.int .i64 0,.slice co p.length cc,.int .i64 (Q:Int)],.int .i64 0]) (by simp [results,Tryz.results51,go_sem,y0,y1,y2,y3]) rfl (by rw [HR.out];exact ⟨co,cc,rfl,ROWF.out w6 w7 _ co cc k5 R7.out kk,ks⟩)
      | false=>
       have HR:Hid (R=(match kidOf U[q] l with | none=>(2,0,[],0,0) | some t=>goF L U a n t)):=by show _=_;rw [← hg,goF,if_pos rfl,hq];simp only [hgd,hd,if_false,Bool.false_eq_true];cases kidOf U[q] l <;> rfl
       have D5:Hid (∀ w5,Same0 wr w5→Calls Tryz.prog 22 #[.slice ro L.length rcap,.int .i64 U[q]] w5 fun e w' => e=.returned (.bool false)∧w' = w5):=fun w5 hk=>by rw [← hd];exact HD.out w5 (KT.out wr w5 kw hk) _
       have FINZ:Hid (∀ w7 i (hi:i<l.length) z0 z1 zo zl zc yo yl yc,kidOf U[q] l=some l[i].2→Same0 wr w7→CsB (fun b=>b<w.heap.size) w7 n (.agg #[.int .i64 z0,.int .i64 z1,.slice zo zl zc,.slice yo yl yc]) l[i].2→(Hid (∃ N,WAt (fun b=>b<w.heap.size) w.heap.size L U a R ((((w7.setCell ⟨w.heap.size,0,none⟩ (.int .i64 z0)).setCell ⟨w.heap.size,1,none⟩ (.int .i64 z1)).setCell ⟨w.heap.size,2,none⟩ (.slice zo zl zc)).setCell ⟨w.heap.size,3,none⟩ (.slice yo yl yc)) N)∧Kept (fun q=>q=w.heap.size) W1 ((((w7.setCell ⟨w.heap.size,0,none⟩ (.int .i64 z0)).setCell ⟨w.heap.size,1,none⟩ (.int .i64 z1)).setCell ⟨w.heap.size,2,none⟩ (.slice zo zl zc)).setCell ⟨w.heap.size,3,none⟩ (.slice yo yl yc)))∧leastD (WAt (fun b=>b<w.heap.size) w.heap.size L U a R ((((w7.setCell ⟨w.heap.size,0,none⟩ (.int .i64 z0)).setCell ⟨w.heap.size,1,none⟩ (.int .i64 z1)).setCell ⟨w.heap.size,2,none⟩ (.slice zo zl zc)).setCell ⟨w.heap.size,3,none⟩ (.slice yo yl yc)))<leastD (WAt (fun b=>b<w.heap.size) w.heap.size L U a R wr)):=by
        intro w7 i hi z0 z1 zo zl zc yo yl yc hkd hk hz
        have s3:=setAt (setAt (setAt (setAt (hk.at0 hb) 0 (.int .i64 z0)) 1 (.int .i64 z1)) 2 (.slice zo zl zc)) 3 (.slice yo yl yc)
        have k1:=Kept.setCell (p:=⟨w.heap.size,0,none⟩) (Kept.refl (fun q=>q=w.heap.size) w7) (fun _=>rfl) (.int .i64 z0)
        have k2:=Kept.setCell (p:=⟨w.heap.size,1,none⟩) k1 (fun _=>rfl) (.int .i64 z1)
        have k3:=Kept.setCell (p:=⟨w.heap.size,2,none⟩) k2 (fun _=>rfl) (.slice zo zl zc)
        have k4:=Kept.setCell (p:=⟨w.heap.size,3,none⟩) k3 (fun _=>rfl) (.slice yo yl yc)
        have hM:leastD (WAt (fun b=>b<w.heap.size) w.heap.size L U a R wr)=2 * (n+1)+1:=HM.out.trans (by simp [mesT])
        have hR:=HR.out
        rw [hkd] at hR
        have h9:=mesT_le n l[i].2
        have hN:WAt (fun b=>b<w.heap.size) w.heap.size L U a R ((((w7.setCell ⟨w.heap.size,0,none⟩ (.int .i64 z0)).setCell ⟨w.heap.size,1,none⟩ (.int .i64 z1)).setCell ⟨w.heap.size,2,none⟩ (.slice zo zl zc)).setCell ⟨w.heap.size,3,none⟩ (.slice yo yl yc)) (mesT n l[i].2):=⟨n,l[i].2,_,_,_,_,rfl,s3,CsB.kept k4 (fun b q f=>by omega) hz,hsk i hi,hR.symm⟩
        refine ⟨⟨⟨_,hN⟩,KT.out wr _ kw hk |>.trans k4 (fun _ _ z=>z)⟩,?_⟩
        rw [hM]
        exact Nat.lt_of_le_of_lt (HLD.out.2 _ _ hN) (by omega)
       have H6:Hid (l=[]∨∃ b off,ko=some ⟨b,off,none⟩∧b<w.heap.size∧b<wr.heap.size∧∀ i (h:i<l.length),∃ c0 c1 c2 c3,wr.cell? ⟨b,off+i * 5,none⟩=some (.int .i64 l[i].1)∧wr.cell? ⟨b,off+i * 5+1,none⟩=some c0∧wr.cell? ⟨b,off+i * 5+2,none⟩=some c1∧wr.cell? ⟨b,off+i * 5+3,none⟩=some c2∧wr.cell? ⟨b,off+i * 5+4,none⟩=some c3∧CsB (fun b=>b<w.heap.size) wr n (.agg #[c0,c1,c2,c3]) l[i].2):=h6
       clear hg hq h6 h2 h3 hb HC hsk hd hQ c0 c1 c2 c3
       obtain ⟨⟨c0,c1,c2,c3⟩,_⟩:=BXC.out wr (Kept.refl _ _)
       go_upto_region 8 with (first | (go_at_call 79;refine D4.mono ?_;rintro e w5 ⟨rfl,k5⟩))
       have u5:=HCL.out w5 k5
       have E5:=D5.out w5 k5
       go_upto_region 11 with (first | (go_at_call 22;refine E5.mono ?_;rintro e w6 ⟨rfl,rfl⟩))
       clear c0 c1 c2 c3 u5 E5 D5 D4
       obtain ⟨⟨c0,c1,c2,c3⟩,_⟩:=BXC.out w6 k5
       have hl1:IntKind.i64.wrap ((l.length:Int)-1)=(l.length:Int)-1:=iwrap (by omega) (by omega)
       go_wp2_with fail
       clear c0 c1 c2 c3
       go_loopw [12,13] (fun nx i wq=>∃ z:Int,nx=.int .i64 z∧Same0 wr wq∧((i=.int .i64 (-1)∧Hid (NX U[q] l 0 z))∨(∃ j:Nat,j<l.length∧i=.int .i64 (j:Int)∧Hid (NX U[q] l (j+1) z)))) (fun _ i _=>(intOf i+1).toNat)
       case atStart=>
        refine ⟨-1,rfl,k5,?_⟩
        by_cases h0:l.length=0
        ·exact .inl ⟨by rw [h0];rfl,by have:=NX.end (s:=U[q]) (l:=l);rw [h0] at this;exact this⟩
        ·exact .inr ⟨l.length-1,by omega,by congr 1;omega,by have:=NX.end (s:=U[q]) (l:=l);rw [Nat.sub_add_cancel (by omega)];exact this⟩
       case round=>
        obtain ⟨z,rfl,kq,hcase⟩:=hrel
        obtain ⟨⟨c0,c1,c2,c3⟩,q0,q1,q2,q3⟩:=BXC.out wr kq
        have u6:=HCL.out wr kq
        rcases hcase with ⟨rfl,hx⟩ | ⟨j,hj,rfl,hx⟩
        ·rcases hx.out.kid with ⟨rfl,hk⟩ | ⟨m,hm,rfl,hk⟩
         ·have HR2:Hid (R=(2,0,[],0,0)):=by show _=_;rw [HR.out,hk]
          obtain ⟨⟨r0,r1,r2,r3⟩,g0,g1,g2,g3⟩:=RC.out wr (KT.out _ wr kw kq)
          obtain ⟨y0,y1,y2,y3,kk,ks⟩:=PUT.out wr (.int .i64 2) (.int .i64 0) (.slice none 0 0) (.int .i64 0) (KT.out _ wr kw kq)
          have FIN:Hid (Same0 w _):=ks
          clear hx hk kk ks
          go_wp2_with fail
          exact bodyPost_ret (v:=.tuple #[.agg #[.int .i64 2,.int .i64 0,.slice none 0 0,.int .i64 0],.int .i64 0]) (by simp [results,Tryz.results51,go_sem,y0,y1,y2,y3]) rfl (by rw [HR2.out];exact ⟨none,0,rfl,World.ownsRow_nil _ _ _ _,FIN.out⟩)
         ·rcases H6.out with e | ⟨ab,aoff,rfl,_,hab,hca⟩
          ·subst e;simp at hm
          obtain ⟨d0,d1,d2,d3,p0,p1,p2,p3,p4,p5⟩:=hca m hm
          obtain ⟨e0,e1,e2,e3,e4,e5,e6,e7,ea⟩:=p5.shape
          simp only [Value.agg.injEq,Array.mk.injEq,List.cons.injEq,and_true] at ea
          obtain ⟨rfl,rfl,rfl,rfl⟩:=ea
          have ta:∀ (o:Nat) (v:Value),_→wr.cell? ⟨ab,o,none⟩=some v:=fun o v e=>(kq.cell (p:=⟨ab,o,none⟩) hab (fun f=>f)).trans e
          replace p0:=ta _ _ p0
          replace p1:=ta _ _ p1
          replace p2:=ta _ _ p2
          replace p3:=ta _ _ p3
          replace p4:=ta _ _ p4
          have j1:(0:Int)≤(m:Int):=by omega
          have j2:(m:Int)<(l.length:Int):=by omega
          have i4:¬ (m:Int)<0:=by omega
          have HFZ:Hid _:=FINZ.out wr m hm e0 e1 e2 e3 e4 e5 e6 e7 hk kq (p5.same kq)
          clear hx hk p5 ta hca H6
          go_wp2_with fail
          exact HFZ.out
        ·have hjw:IntKind.i64.wrap ((j:Int)-1)=(j:Int)-1:=iwrap (by omega) (by omega)
         rcases H6.out with e | ⟨ab,aoff,rfl,_,hab,hca⟩
         ·subst e;simp at hj
         obtain ⟨d0,d1,d2,d3,p0,p1,p2,p3,p4,p5⟩:=hca j hj
         obtain ⟨e0,e1,e2,e3,e4,e5,e6,e7,ea⟩:=p5.shape
         simp only [Value.agg.injEq,Array.mk.injEq,List.cons.injEq,and_true] at ea
         obtain ⟨rfl,rfl,rfl,rfl⟩:=ea
         have ta:∀ (o:Nat) (v:Value),_→wr.cell? ⟨ab,o,none⟩=some v:=fun o v e=>(kq.cell (p:=⟨ab,o,none⟩) hab (fun f=>f)).trans e
         replace p0:=ta _ _ p0
         replace p1:=ta _ _ p1
         replace p2:=ta _ _ p2
         replace p3:=ta _ _ p3
         replace p4:=ta _ _ p4
         have j1:(0:Int)≤(j:Int):=by omega
         have j2:(j:Int)<(l.length:Int):=by omega
         by_cases he:l[j].1=U[q]
         ·have HX:Hid (NX U[q] l j (j:Int)):=NX.hit hj he
          have heq:(l[j].1 == U[q])=true:=by simpa using he
          clear hx p5 ta hca H6 he
          go_wp2_with fail
          go_quiet (fail)
          go_wp2_with fail
          refine ⟨⟨_,rfl,Kept.drewN kq _,?_⟩,by simp [intOf]⟩
          by_cases h0:j=0
          ·exact .inl ⟨by subst h0;rfl,by subst h0;exact HX⟩
          ·exact .inr ⟨j-1,by omega,by congr 1;omega,by rw [Nat.sub_add_cancel (by omega)];exact HX⟩
         ·have HX:Hid (NX U[q] l j z):=hx.out.miss hj he
          have heq:(l[j].1 == U[q])=false:=by simpa using he
          clear hx p5 ta hca H6 he
          go_wp2_with fail
          go_quiet (fail)
          go_wp2_with fail
          refine ⟨⟨_,rfl,Kept.drewN kq _,?_⟩,by simp [intOf]⟩
          by_cases h0:j=0
          ·exact .inl ⟨by subst h0;rfl,by subst h0;exact HX⟩
          ·exact .inr ⟨j-1,by omega,by congr 1;omega,by rw [Nat.sub_add_cancel (by omega)];exact HX⟩
    ·have hke:(k == 2)=false:=by simpa using hk2
     have HR:Hid (R=(2,0,[],0,0)):=by show _=_;rw [← hg,goF,if_neg hk2,if_neg hk1]
     obtain ⟨⟨r0,r1,r2,r3⟩,g0,g1,g2,g3⟩:=RC.out wr kw
     obtain ⟨y0,y1,y2,y3,kk,ks⟩:=PUT.out wr (.int .i64 2) (.int .i64 0) (.slice none 0 0) (.int .i64 0) kw
     have FIN:Hid (Same0 w _):=ks
     clear hg h6 h2 h3 hb HC hsk kk ks
     go_wp2_with fail
     exact bodyPost_ret (v:=.tuple #[.agg #[.int .i64 2,.int .i64 0,.slice none 0 0,.int .i64 0],.int .i64 0]) (by simp [results,Tryz.results51,go_sem,y0,y1,y2,y3]) rfl (by rw [HR.out];exact ⟨none,0,rfl,World.ownsRow_nil _ _ _ _,FIN.out⟩)
def walkR (L:List Sym) (T:List Int) (a:Int) (n:Nat) (t:Tr n):Fd:=if wErr L T a=0 then goF L (subN L T a.toNat) a n t else (0,0,[],0,wErr L T a)
theorem wErr_zero {L:List Sym} {T:List Int} {a:Int} (h:wErr L T a=0):checkE L T=0∧T.any (fun x=>decide (x<0))=false∧∃ i:Nat,a=(i:Int)∧i<T.length:=by
 unfold wErr at h
 by_cases h1:checkE L T=0
 ·rw [if_neg (by simp [h1])] at h
  cases hv:T.any (fun x=>decide (x<0)) with
  | true=>rw [if_pos hv] at h;omega
  | false=>
   rw [if_neg (by rw [hv];simp)] at h
   unfold placeE at h
   rw [if_neg (by simp [h1])] at h
   by_cases h2:a<0∨(T.length:Int)≤a
   ·rw [if_pos h2] at h;omega
   ·exact ⟨h1,rfl,a.toNat,by omega,by omega⟩
 ·rw [if_pos h1] at h;exact absurd h h1
theorem twalk_any {w:World} {bs:Nat} {L:List Sym} (hs:Sg w.heap.size w bs L) {n:Nat} {v:Value} {t:Tr n} (h:CsB (fun b=>b<w.heap.size) w n v t) (hsm:SmW n t) {tto:Option Addr} {tc:Nat} {T:List Int} (ht:Arg w tto T tc) (a:Int) :
  Calls Tryz.prog 15 #[.pointer (some ⟨bs,0,none⟩),v,.slice tto T.length tc,.int .i64 a] w (FdOut w (walkR L T a n t)):=by
 by_cases he:wErr L T a=0
 ·obtain ⟨h1,h2,i,rfl,hi⟩:=wErr_zero he
  unfold walkR
  rw [if_pos he,Int.toNat_natCast]
  exact walk_go hs h hsm ht h1 h2 hi
 ·obtain ⟨k,r,po,pl,pc,ko,kl,kc,rfl⟩:=h.shape
  unfold walkR
  rw [if_neg he]
  exact walk_err hs k r po ko pl pc kl kc ht a he
set_option maxHeartbeats 8000000 in
theorem rwalk_any {w:World} {m:Nat} {rv:Value} {L:List Sym} (hs:Rl m w rv L) {n:Nat} {v:Value} {t:Tr n} (h:CsB (fun b=>b<w.heap.size) w n v t) (hsm:SmW n t) {tto:Option Addr} {tc:Nat} {T:List Int} (ht:Arg w tto T tc) (a:Int) :
  Calls Tryz.prog 16 #[rv,v,.slice tto T.length tc,.int .i64 a] w (FdOut w (walkR L T a n t)):=by
 obtain ⟨k,r,po,pl,pc,ko,kl,kc,rfl⟩:=h.shape
 obtain ⟨ro,rcap,rfl⟩:=row_shape hs.1
 obtain ⟨W1,hW1⟩:∃ W1,W1=(w.alloc (.cells #[.int .i64 k,.int .i64 r,.slice po pl pc,.slice ko kl kc] 35)).alloc (.cells #[.int .i64 0,.int .i64 0,.slice none 0 0,.int .i64 0] 53):=⟨_,rfl⟩
 have KW:Same0 w W1:=by rw [hW1];exact ((Kept.refl _ w).alloc _).alloc _
 have hbx:W1.heap[w.heap.size]? = some (.cells #[.int .i64 k,.int .i64 r,.slice po pl pc,.slice ko kl kc] 35 (0,0)):=by rw [hW1];exact heap_alloc2_old _ _ _
 have hfd:W1.heap[w.heap.size+1]? = some (.cells #[.int .i64 0,.int .i64 0,.slice none 0 0,.int .i64 0] 53 (0,0)):=by rw [hW1];exact heap_al_al _ _ _
 have RC:Hid (∀ ww,Same0 W1 ww→(ww.cell? ⟨w.heap.size+1,0,none⟩=some (.int .i64 0)∧ww.cell? ⟨w.heap.size+1,1,none⟩=some (.int .i64 0)∧ww.cell? ⟨w.heap.size+1,2,none⟩=some (.slice none 0 0)∧ww.cell? ⟨w.heap.size+1,3,none⟩=some (.int .i64 0))∧ww.frozen? ⟨w.heap.size+1,0,none⟩=false∧ww.frozen? ⟨w.heap.size+1,1,none⟩=false∧ww.frozen? ⟨w.heap.size+1,2,none⟩=false∧ww.frozen? ⟨w.heap.size+1,3,none⟩=false):=fun ww hk=>by
  have rs:=hk.at0 hfd
  exact ⟨⟨cellAt rs 0,cellAt rs 1,cellAt rs 2,cellAt rs 3⟩,frozenAt rs 0,frozenAt rs 1,frozenAt rs 2,frozenAt rs 3⟩
 have PUT:Hid (∀ ww x0 x1 x2 x3,Same0 W1 ww→(((((ww.setCell ⟨w.heap.size+1,0,none⟩ x0).setCell ⟨w.heap.size+1,1,none⟩ x1).setCell ⟨w.heap.size+1,2,none⟩ x2).setCell ⟨w.heap.size+1,3,none⟩ x3).cell? ⟨w.heap.size+1,0,none⟩=some x0∧((((ww.setCell ⟨w.heap.size+1,0,none⟩ x0).setCell ⟨w.heap.size+1,1,none⟩ x1).setCell ⟨w.heap.size+1,2,none⟩ x2).setCell ⟨w.heap.size+1,3,none⟩ x3).cell? ⟨w.heap.size+1,1,none⟩=some x1∧((((ww.setCell ⟨w.heap.size+1,0,none⟩ x0).setCell ⟨w.heap.size+1,1,none⟩ x1).setCell ⟨w.heap.size+1,2,none⟩ x2).setCell ⟨w.heap.size+1,3,none⟩ x3).cell? ⟨w.heap.size+1,2,none⟩=some x2∧((((ww.setCell ⟨w.heap.size+1,0,none⟩ x0).setCell ⟨w.heap.size+1,1,none⟩ x1).setCell ⟨w.heap.size+1,2,none⟩ x2).setCell ⟨w.heap.size+1,3,none⟩ x3).cell? ⟨w.heap.size+1,3,none⟩=some x3)∧Kept (fun q=>q=w.heap.size+1) ww ((((ww.setCell ⟨w.heap.size+1,0,none⟩ x0).setCell ⟨w.heap.size+1,1,none⟩ x1).setCell ⟨w.heap.size+1,2,none⟩ x2).setCell ⟨w.heap.size+1,3,none⟩ x3)∧Same0 w ((((ww.setCell ⟨w.heap.size+1,0,none⟩ x0).setCell ⟨w.heap.size+1,1,none⟩ x1).setCell ⟨w.heap.size+1,2,none⟩ x2).setCell ⟨w.heap.size+1,3,none⟩ x3)):=by
  intro ww x0 x1 x2 x3 hk
  have rs:=hk.at0 hfd
  have s3:=setAt (setAt (setAt (setAt rs 0 x0) 1 x1) 2 x2) 3 x3
  have k1:=Kept.setCell (p:=⟨w.heap.size+1,0,none⟩) (Kept.refl (fun q=>q=w.heap.size+1) ww) (fun _=>rfl) x0
  have k2:=Kept.setCell (p:=⟨w.heap.size+1,1,none⟩) k1 (fun _=>rfl) x1
  have k3:=Kept.setCell (p:=⟨w.heap.size+1,2,none⟩) k2 (fun _=>rfl) x2
  have k4:=Kept.setCell (p:=⟨w.heap.size+1,3,none⟩) k3 (fun _=>rfl) x3
  exact ⟨⟨cellAt s3 0,cellAt s3 1,cellAt s3 2,cellAt s3 3⟩,k4,Kept.trans (KW.trans' hk) k4 (fun i hi e=>by omega)⟩
 have hts:=ht.size
 have htm:T.length≤maxLen:=by unfold maxLen;omega
 have C1:=rcheck_any (cap:=tc) (hs.same KW) (ht.same KW).at' htm
 obtain ⟨R,hR⟩:∃ R,R=walkR L T a n t:=⟨_,rfl⟩
 rw [← hR]
 obtain ⟨⟨r0,r1,r2,r3⟩,g0,g1,g2,g3⟩:=RC.out W1 (Kept.refl _ _)
 have x0:=cellAt hbx 0
 have x1:=cellAt hbx 1
 have x2:=cellAt hbx 2
 have x3:=cellAt hbx 3
 simp only [List.getElem?_toArray,List.getElem?_cons_zero,List.getElem?_cons_succ] at x0 x1 x2 x3
 have PH:Hid _:=PUT.out W1 (.int .i64 0) (.int .i64 0) (.slice none 0 0) (.int .i64 0) (Kept.refl _ _)
 by_cases hc:checkE L T=0
 ·have HT:=checkE_zero.1 hc
  have HW:Hid (R=walkR L T a n t):=hR
  have HE:Hid (wErr L T a=if T.any (fun x=>decide (x<0))=true then 22 else if a<0∨(T.length:Int)≤a then 24 else 0):=by
   show _=_
   simp only [wErr,placeE,hc,ne_eq,not_true_eq_false,if_false]
  have CG:Hid (∀ i:Nat,i<T.length→Calls Tryz.prog 51 #[.slice ro L.length rcap,.agg #[.int .i64 k,.int .i64 r,.slice po pl pc,.slice ko kl kc],.slice tto T.length tc,.int .i64 (i:Int)] W1 (FdOut W1 (goF L (subN L T i) i n t))):=fun i hi=>rgo_any (hs.same KW) (CsB.mono (fun b _ q=>Nat.lt_of_lt_of_le q KW.size) (h.same KW)) hsm (ht.same KW).at' HT.1 HT.2.2 hi
  have HX:Hid (∀ i (hi:i<T.length),∃ b off,tto=some ⟨b,off,none⟩∧W1.cell? ⟨b,off+i,none⟩=some (.int .i64 T[i])):=fun i hi=>by
   obtain ⟨b,off,e,_,hcell⟩:=(ht.same KW).at'.get hi
   exact ⟨b,off,e,hcell⟩
  rw [hc] at C1
  have hTb:=HT.1
  have z0:=KW.size
  clear hs h hsm ht hR HT hbx hfd htm hts
  go_enter Tryz.func16,Tryz.ntmps16
  go_upto_region 1 with fail
  rw [← hW1]
  clear hW1
  go_upto_region 4 with (first | (go_at_call 50;refine C1.mono ?_;rintro e w2 ⟨rfl,rfl⟩))
  go_wp2_with fail
  go_loopw [11] (fun s11 wr=>wr=w2∧∃ i:Nat,i≤T.length∧s11=.int .i64 (i:Int)∧Hid (∀ j (hj:j<T.length),j<i→0≤T[j])) (fun s11 _=>T.length-(intOf s11).toNat)
  case atStart=>exact ⟨rfl,0,Nat.zero_le _,rfl,fun j _ h=>absurd h (by omega)⟩
  case round=>
   obtain ⟨rfl,i,hi,rfl,hN⟩:=hrel
   by_cases hlt:i<T.length
   ·obtain ⟨b,off,rfl,hcell⟩:=HX.out i hlt
    have i1:(0:Int)≤(i:Int):=by omega
    have i2:(i:Int)<(T.length:Int):=by omega
    by_cases hz:T[i]<0
    ·have FR:Hid (R=(0,0,[],0,22)):=by
      show _=_
      have e1:T.any (fun x=>decide (x<0))=true:=List.any_eq_true.2 ⟨T[i],List.getElem_mem _,by simpa using hz⟩
      have e2:wErr L T a=22:=by rw [HE.out,if_pos e1]
      rw [HW.out,walkR,if_neg (by rw [e2];decide),e2]
     clear hN HW HE CG HX
     generalize T[i]=z at *
     go_wp2_with fail
     obtain ⟨⟨y0,y1,y2,y3⟩,kk,ks⟩:=PH.out
     exact bodyPost_ret (v:=.tuple #[.agg #[.int .i64 0,.int .i64 0,.slice none 0 0,.int .i64 0],.int .i64 22]) (by simp [results,Tryz.results16,go_sem,y0,y1,y2,y3]) rfl (by rw [FR.out];exact ⟨none,0,rfl,World.ownsRow_nil _ _ _ _,ks⟩)
    ·have NX:Hid (∀ j (hj:j<T.length),j<i+1→0≤T[j]):=fun j hj hlt=>by
      by_cases e:j=i
      ·subst e;omega
      ·exact hN.out j hj (by omega)
     have hz2:0≤T[i]:=by omega
     clear hN HW HE CG HX PH
     generalize T[i]=z at *
     go_wp2_with fail
     go_roundw
     case rel=>exact ⟨trivial,i+1,by omega,by go_num,NX⟩
     case measure=>simp [intOf];omega
   ·obtain rfl:i=T.length:=by omega
    have hall:T.any (fun x=>decide (x<0))=false:=by
     cases e:T.any (fun x=>decide (x<0)) with
     | false=>rfl
     | true=>
      obtain ⟨x,hx,hd⟩:=List.any_eq_true.1 e
      obtain ⟨j,hj,rfl⟩:=List.getElem_of_mem hx
      have:=hN.out j hj hj
      have hd:T[j]<0:=by simpa using hd
      omega
    have HE2:Hid (wErr L T a=if a<0∨(T.length:Int)≤a then 24 else 0):=by show _=_;rw [HE.out,if_neg (by rw [hall];simp)]
    clear hN HE HX hall
    by_cases ha:a<0
    ·have FR:Hid (R=(0,0,[],0,24)):=by
      show _=_
      have e2:wErr L T a=24:=by rw [HE2.out,if_pos (.inl ha)]
      rw [HW.out,walkR,if_neg (by rw [e2];decide),e2]
     clear HW HE2 CG
     go_wp2_with fail
     obtain ⟨⟨y0,y1,y2,y3⟩,kk,ks⟩:=PH.out
     exact bodyPost_ret (v:=.tuple #[.agg #[.int .i64 0,.int .i64 0,.slice none 0 0,.int .i64 0],.int .i64 24]) (by simp [results,Tryz.results16,go_sem,y0,y1,y2,y3]) rfl (by rw [FR.out];exact ⟨none,0,rfl,World.ownsRow_nil _ _ _ _,ks⟩)
    ·by_cases hb:a<(T.length:Int)
     ·obtain ⟨i,rfl⟩:∃ i:Nat,a=(i:Int):=⟨a.toNat,by omega⟩
      have HR:Hid (R=goF L (subN L T i) i n t):=by
       show _=_
       have e2:wErr L T (i:Int)=0:=by rw [HE2.out,if_neg (by omega)]
       rw [HW.out,walkR,if_pos e2,Int.toNat_natCast]
      have CC:=CG.out i (by omega)
      have hb2:¬ (T.length:Int)≤(i:Int):=by omega
      rw [← HR.out] at CC
      clear HW HE2 CG HR PH
      obtain ⟨rk,rr,rp,rn,re⟩:=R
      have CD:Calls Tryz.prog 51 #[.slice ro L.length rcap,.agg #[.int .i64 k,.int .i64 r,.slice po pl pc,.slice ko kl kc],.slice tto T.length tc,.int .i64 (i:Int)] wr fun e w' => ∃ qo qc,e=.returned (.tuple #[.agg #[.int .i64 rk,.int .i64 rr,.slice qo rp.length qc,.int .i64 rn],.int .i64 re])∧Hid (Row wr.heap.size w' (.slice qo rp.length qc) rp)∧Same0 wr w' := CC
      clear CC
      go_wp2_with (first | (go_at_call 51;refine CD.mono ?_;rintro e w3 ⟨qo,qc,rfl,r3', k3⟩;clear r0 r1 r2 r3 g0 g1 g2 g3;obtain ⟨⟨r0,r1,r2,r3⟩,g0,g1,g2,g3⟩:=RC.out w3 k3))
      obtain ⟨⟨y0,y1,y2,y3⟩,kk,ks⟩:=PUT.out w3 (.int .i64 rk) (.int .i64 rr) (.slice qo rp.length qc) (.int .i64 rn) k3
      refine bodyPost_ret (v:=.tuple #[.agg #[.int .i64 rk,.int .i64 rr,.slice qo rp.length qc,.int .i64 rn],.int .i64 re]) (by simp [results,Tryz.results16,go_sem,y0,y1,y2,y3]) rfl ⟨qo,qc,rfl,?_,ks⟩
      have hfz:w.heap.size+1<wr.heap.size:=by
       have:=World.block_lt_of_cell? _ _ r0
       have hk:=k3.size
       exact Nat.lt_of_not_le fun hle=>by
        have:=(RC.out wr (Kept.refl _ _)).1.1
        have:=World.block_lt_of_cell? _ _ this
        exact absurd this (by simp only;omega)
      refine row_mono (kk.row r3'.out (fun q q1 q2=>?_)) z0
      have:=(World.ownsRow.lt r3'.out q q1).1
      have e3:q=w.heap.size+1:=q2
      omega
     ·have FR:Hid (R=(0,0,[],0,24)):=by
       show _=_
       have e2:wErr L T a=24:=by rw [HE2.out,if_pos (.inr (by omega))]
       rw [HW.out,walkR,if_neg (by rw [e2];decide),e2]
      have hb2:(T.length:Int)≤a:=by omega
      clear HW HE2 CG
      go_wp2_with fail
      obtain ⟨⟨y0,y1,y2,y3⟩,kk,ks⟩:=PH.out
      exact bodyPost_ret (v:=.tuple #[.agg #[.int .i64 0,.int .i64 0,.slice none 0 0,.int .i64 0],.int .i64 24]) (by simp [results,Tryz.results16,go_sem,y0,y1,y2,y3]) rfl (by rw [FR.out];exact ⟨none,0,rfl,World.ownsRow_nil _ _ _ _,ks⟩)
 ·have FR:Hid (R=(0,0,[],0,checkE L T)):=by
   show _=_
   have e2:wErr L T a=checkE L T:=by rw [wErr,if_pos hc]
   rw [hR,walkR,if_neg (by rw [e2];exact hc),e2]
  have hce:(checkE L T == 0)=false:=by simpa using hc
  have hcn:(checkE L T != 0)=true:=by simpa using hc
  clear hR hs h hsm ht hbx hfd htm
  generalize checkE L T=E at *
  go_enter Tryz.func16,Tryz.ntmps16
  go_upto_region 1 with fail
  rw [← hW1]
  clear hW1
  go_wp2_with (first | (go_at_call 50;refine C1.mono ?_;rintro e w2 ⟨rfl,rfl⟩))
  obtain ⟨⟨y0,y1,y2,y3⟩,kk,ks⟩:=PH.out
  exact bodyPost_ret (v:=.tuple #[.agg #[.int .i64 0,.int .i64 0,.slice none 0 0,.int .i64 0],.int .i64 E]) (by simp [results,Tryz.results16,go_sem,y0,y1,y2,y3]) rfl (by rw [FR.out];exact ⟨none,0,rfl,World.ownsRow_nil _ _ _ _,ks⟩)
structure Lent7 (base:Nat) (w:World) (v:Value) (l:List Ru) (k:Nat) (vs:List Value) (f:Nat→Nat):Prop where
 row:w.ownsRow base 63 2 v k vs
 le:k≤l.length
 lo:∀ i,i<k * 2→base≤f i∧f i<w.heap.size
 up:∀ i j,i<j→j<k * 2→f i<f j
 one:∀ i (h:i<l.length),i<k→vs[i * 2]? = some (.slice (some ⟨f (i * 2),0,none⟩) l[i].1.length (l[i].1.length+1))∧Row base w (.slice (some ⟨f (i * 2),0,none⟩) (l[i].1.length+1) (l[i].1.length+1)) (l[i].1 ++ [77])
 two:∀ i (h:i<l.length),i<k→vs[i * 2+1]? = some (.slice (some ⟨f (i * 2+1),0,none⟩) l[i].2.length (l[i].2.length+1))∧Row base w (.slice (some ⟨f (i * 2+1),0,none⟩) (l[i].2.length+1) (l[i].2.length+1)) (l[i].2 ++ [78])
theorem Lent7.nil (base:Nat) (w:World) (l:List Ru):Lent7 base w (.slice none 0 0) l 0 [] (fun i=>i):=
 ⟨World.ownsRow_nil _ _ _ _,Nat.zero_le _,fun i h=>absurd h (by omega),fun i j _ h=>absurd h (by omega),fun i _ h=>absurd h (by omega),fun i _ h=>absurd h (by omega)⟩
structure Left7 (base:Nat) (w:World) (gv:Nat) (l:List Ru) (k:Nat) (f:Nat→Nat):Prop where
 blk:∃ cur,w.heap[gv]? = some (.cells cur 63 (0,0))∧l.length * 2≤cur.size∧∀ i (h:i<l.length),k≤i→cur[i * 2]? = some (.slice (some ⟨f (i * 2),0,none⟩) l[i].1.length (l[i].1.length+1))∧cur[i * 2+1]? = some (.slice (some ⟨f (i * 2+1),0,none⟩) l[i].2.length (l[i].2.length+1))
 ge:base≤gv∧∀ i,i<l.length * 2→base≤f i
 up:∀ i j,i<j→j<l.length * 2→f i<f j
 one:∀ i (h:i<l.length),k≤i→Row base w (.slice (some ⟨f (i * 2),0,none⟩) (l[i].1.length+1) (l[i].1.length+1)) (l[i].1 ++ [77])
 two:∀ i (h:i<l.length),k≤i→Row base w (.slice (some ⟨f (i * 2+1),0,none⟩) (l[i].2.length+1) (l[i].2.length+1)) (l[i].2 ++ [78])
theorem step_ownT {wb W : World} {ops : Array Oper} {o : Oper} {a : Act} {K : Act → World → Prop} {Q : Exit → Act → World → Prop} {E : Prop} (hgd : o.guard = none) (s x : Operand)
    (ho : o.op = .call { callee := .builtin .append, args := #[s, x], argTypes := #[47, 47] })
    (B : Nat) (hs : a.eval s = .slice (some ⟨B, 0, none⟩) 0 0) (ys : List Int) (ad : Addr) (c : Nat) (hx : a.eval x = .slice (some ad) ys.length c)
    (hW : Same0 wb W) (hB : W.heap[B]? = some (.cells #[] 3 (0, 0))) (hb : wb.heap.size ≤ B) (hy : IntsAt wb (some ad) ys) (hn : 0 < ys.length) (hsz : ys.length ≤ 2000)
    (h : ∀ g cap w', TmAt w' g cap ys → wb.heap.size ≤ g → Same0 wb w' → (∀ g2 c2 zs, TmAt W g2 c2 zs → 0 < zs.length → TmAt w' g2 c2 zs) → (∀ q o, q ≠ B → W.heap[q]? = some o → w'.heap[q]? = some o) → K (a.put o.dst (.slice (some ⟨g, 0, none⟩) ys.length cap)) w') :
    if Region.wanted o (yielded ops a.tmps) = true then Oper.wp Tryz.prog o a W K Q else E := by
  obtain ⟨i, hi, hz0, hz1, hz2⟩ := info_parts info_intT
  have hBl := lt_of_at hB
  refine step_append_lies _ hgd s x 47 ho wb.heap.size 3 i _ 1 8 Tryz.underlying47 hi hz0 hz1 hz2 rfl (by decide) (.slice (some ⟨B, 0, none⟩) 0 0) 0 [] hs ⟨rfl, .inr ⟨B, 0, #[], rfl, hb, hB, Nat.le_refl _, by unfold maxLen; omega, rfl, rfl⟩⟩ ad ys.length c (iv ys) hx (by rw [iv_length]; omega) (fun j u hj => ?_) (iv_oneCell ys) hn (by unfold maxLen; omega) (by omega) hW.size W.heap.size rfl ?_
  · obtain ⟨ad', e, hc⟩ := (hy.same hW).src (by have := (List.getElem?_eq_some_iff.1 hj).1; omega)
    cases e
    exact hc j u hj
  · intro g cap w' hown hgrow hat hlt
    have k : Kept (fun k => k = B) W w' := Kept.grown (Kept.refl _ W) hgrow (fun _ e _ => by simp only [Value.ownBlock, Option.some.injEq] at e; exact e.symm)
    simp only [Nat.zero_add, List.nil_append] at hown ⊢
    refine h g cap w' ?_ (by rcases hat with e | e; · simp only [Value.ownBlock, Option.some.injEq] at e; omega
                             · have := hW.size; omega) (hW.trans (Kept.mono k (fun i hi e => e)) (fun i hi e => by omega)) (fun g2 c2 zs ht hz => ?_) (fun q o hq ho => k.at ho hq)
    · refine ⟨hown.1, .inr ?_⟩
      rcases hown.2 with ⟨e, _⟩ | ⟨g', c', cur, e, _, r⟩
      · cases e
      · cases e
        exact ⟨g, cap, cur, rfl, Nat.le_refl _, r⟩
    · refine k.row ht (fun q e hq => ?_)
      rcases ht.2 with ⟨e0, _⟩ | ⟨g', c', cur, e1, _, hg, h1, h2, h3, h4⟩
      · cases e0
      · cases e1
        simp only [Value.ownBlock, Option.some.injEq] at e
        subst e; subst hq
        rw [hB] at hg
        cases hg
        simp at h3
        omega
set_option maxHeartbeats 8000000 in
theorem rown_any {w:World} {a1 a2:Addr} {ac bc:Nat} {x:Ru} (h1:IntsAt w (some a1) x.1) (h2:IntsAt w (some a2) x.2) (p1:0<x.1.length) (p2:0<x.2.length) (m1:x.1.length≤2000) (m2:x.2.length≤2000) :
  Calls Tryz.prog 59 #[.agg #[.slice (some a1) x.1.length ac,.slice (some a2) x.2.length bc]] w fun e w' => ∃ g c g' c', e=.returned (.agg #[.slice (some ⟨g,0,none⟩) x.1.length c,.slice (some ⟨g', 0,none⟩) x.2.length c'])∧TmAt w' g c x.1∧TmAt w' g' c' x.2∧w.heap.size≤g∧w.heap.size≤g' ∧ Same0 w w' := by
 obtain ⟨wb,hwb⟩:∃ wb,wb=(w.alloc (.cells #[.slice (some a1) x.1.length ac,.slice (some a2) x.2.length bc] 63)).alloc (.cells #[.slice none 0 0,.slice none 0 0] 63):=⟨_,rfl⟩
 have K0:Same0 w wb:=by rw [hwb];exact ((Kept.refl _ w).alloc _).alloc _
 have z0:wb.heap.size=w.heap.size+2:=by rw [hwb];simp
 have B0:wb.heap[w.heap.size]? = some (.cells #[.slice (some a1) x.1.length ac,.slice (some a2) x.2.length bc] 63 (0,0)):=by rw [hwb];exact heap_alloc2_old _ _ _
 have B1:wb.heap[w.heap.size+1]? = some (.cells #[.slice none 0 0,.slice none 0 0] 63 (0,0)):=by rw [hwb];exact heap_al_al _ _ _
 have HS:Hid (∀ ww,Same0 wb ww→(ww.cell? ⟨w.heap.size,0,none⟩=some (.slice (some a1) x.1.length ac)∧ww.cell? ⟨w.heap.size,1,none⟩=some (.slice (some a2) x.2.length bc))∧(ww.cell? ⟨w.heap.size+1,0,none⟩=some (.slice none 0 0)∧ww.cell? ⟨w.heap.size+1,1,none⟩=some (.slice none 0 0))∧ww.frozen? ⟨w.heap.size+1,0,none⟩=false∧ww.frozen? ⟨w.heap.size+1,1,none⟩=false):=fun ww hk=>⟨⟨cellAt (hk.at0 B0) 0,cellAt (hk.at0 B0) 1⟩,⟨cellAt (hk.at0 B1) 0,cellAt (hk.at0 B1) 1⟩,frozenAt (hk.at0 B1) 0,frozenAt (hk.at0 B1) 1⟩
 have HEnd:Hid (∀ ww (A B:Value),Same0 wb ww→Same0 w ((ww.setCell ⟨w.heap.size+1,0,none⟩ A).setCell ⟨w.heap.size+1,1,none⟩ B)):=fun ww A B hk=>((K0.trans' hk).setCell (fun h=>absurd h (by simp)) _).setCell (fun h=>absurd h (by simp)) _
 have HT:Hid (∀ ww g c xs (A B:Value),TmAt ww g c xs→wb.heap.size≤g→TmAt ((ww.setCell ⟨w.heap.size+1,0,none⟩ A).setCell ⟨w.heap.size+1,1,none⟩ B) g c xs):=fun ww g c xs A B ht hg=>by
  have k:Kept (fun k=>k=w.heap.size+1) ww ((ww.setCell ⟨w.heap.size+1,0,none⟩ A).setCell ⟨w.heap.size+1,1,none⟩ B):=Kept.setCell (p:=⟨w.heap.size+1,1,none⟩) (Kept.setCell (p:=⟨w.heap.size+1,0,none⟩) (Kept.refl (fun k=>k=w.heap.size+1) ww) (fun _=>rfl) A) (fun _=>rfl) B
  exact k.row ht (fun i e=>by simp [Value.ownBlock] at e;omega)
 have HR:Hid (∀ ww (A B:Value),Same0 wb ww→((ww.setCell ⟨w.heap.size+1,0,none⟩ A).setCell ⟨w.heap.size+1,1,none⟩ B).cell? ⟨w.heap.size+1,0,none⟩=some A∧((ww.setCell ⟨w.heap.size+1,0,none⟩ A).setCell ⟨w.heap.size+1,1,none⟩ B).cell? ⟨w.heap.size+1,1,none⟩=some B):=fun ww A B hk=>by
  have b:=setAt (setAt (hk.at0 B1) 0 A) 1 B
  exact ⟨cellAt b 0,cellAt b 1⟩
 have I1:=h1.same K0
 have I2:=h2.same K0
 obtain ⟨⟨c00,c01⟩,⟨c10,c11⟩,f10,f11⟩:=HS.out wb (Kept.refl _ _)
 have HW:Hid (wb=(w.alloc (.cells #[.slice (some a1) x.1.length ac,.slice (some a2) x.2.length bc] 63)).alloc (.cells #[.slice none 0 0,.slice none 0 0] 63)):=hwb
 clear B0 B1 h1 h2 hwb
 go_enter Tryz.func59,Tryz.ntmps59
 go_wp2
 rw [← HW.out]
 have E0:(wb.alloc (.cells #[] 3)).heap[w.heap.size+2]? = some (.cells #[] 3 (0,0)):=by rw [← z0];exact heap_alloc_new _ _
 have E1:((wb.alloc (.cells #[] 3)).alloc (.cells #[] 3)).heap[w.heap.size+2]? = some (.cells #[] 3 (0,0)):=by rw [← z0];exact heap_alloc2_old _ _ _
 have E2:((wb.alloc (.cells #[] 3)).alloc (.cells #[] 3)).heap[w.heap.size+3]? = some (.cells #[] 3 (0,0)):=by have:=heap_alloc_new (wb.alloc (.cells #[] 3)) (.cells #[] 3 (0,0));rw [World.size_alloc,z0] at this;exact this
 have HE:Hid ((wb.alloc (.cells #[] 3)).heap[w.heap.size+2]? = some (.cells #[] 3 (0,0))∧((wb.alloc (.cells #[] 3)).alloc (.cells #[] 3)).heap[w.heap.size+2]? = some (.cells #[] 3 (0,0))∧((wb.alloc (.cells #[] 3)).alloc (.cells #[] 3)).heap[w.heap.size+3]? = some (.cells #[] 3 (0,0))):=⟨E0,E1,E2⟩
 have hz0:Hid (wb.heap.size=w.heap.size+2):=z0
 clear E0 E1 E2
 rename_i QQ KK hKK
 have FIN:Hid (∀ (t0 t1 t3 t4 t5 t6 t7 t8 t9 t10 t11:Value) (w2:World) (g c g' c' : Nat),Same0 wb w2→TmAt w2 g c x.1→TmAt w2 g' c' x.2→wb.heap.size≤g→wb.heap.size≤g' → KK { tmps:=#[t0,t1,.pointer (some ⟨w.heap.size+1,0,none⟩),t3,t4,t5,t6,t7,t8,t9,t10,t11],defers:=[] } ((w2.setCell ⟨w.heap.size+1,0,none⟩ (.slice (some ⟨g,0,none⟩) x.1.length c)).setCell ⟨w.heap.size+1,1,none⟩ (.slice (some ⟨g', 0,none⟩) x.2.length c'))):=by
  intro t0 t1 t3 t4 t5 t6 t7 t8 t9 t10 t11 w2 g c g' c' S3 T5 T3 G1 G3
  apply hKK
  clear HS I1 I2
  go_wp2
  exact bodyPost_ret (v:=.agg #[.slice (some ⟨g,0,none⟩) x.1.length c,.slice (some ⟨g', 0,none⟩) x.2.length c']) (by obtain ⟨r0,r1⟩:=HR.out w2 (.slice (some ⟨g,0,none⟩) x.1.length c) (.slice (some ⟨g', 0,none⟩) x.2.length c') S3;simp [results,Tryz.results59,go_sem,r0,r1]) rfl ⟨g,c,g', c', rfl,HT.out _ _ _ _ _ _ T5 G1,HT.out _ _ _ _ _ _ T3 G3,by omega,by omega,HEnd.out _ _ _ S3⟩
 clear HR HT HEnd
 go_region_law (first
  | (have T2:=T1;have hz:=hz0.out;have hzz:=S1.size;refine step_ownT (wb:=wb) (by rfl) _ _ (by rfl) _ (by rfl) x.2 a2 bc (by rfl) (by first | exact S1 | exact S1.alloc _) (by first | exact heap_alloc_new _ _ | exact X2 | exact X3) (by omega) I2 p2 m2 ?_;intro g' c' w2 T3 G3 S3 T4 _;obtain ⟨⟨e00,e01⟩,⟨e10,e11⟩,y10,y11⟩:=HS.out w2 S3;have T5:=T4 _ _ _ (by first | exact T2 | exact T2.same ((Kept.refl _ _).alloc _)) p1)
  | (have hz:=hz0.out;refine step_ownT (wb:=wb) (by rfl) _ _ (by rfl) _ (by rfl) x.1 a1 ac (by rfl) (by first | exact ((Kept.refl _ wb).alloc _).drew | exact (((Kept.refl _ wb).alloc _).alloc _).drew | exact (Kept.refl _ wb).drew.alloc _ | exact ((Kept.refl _ wb).drew.alloc _).alloc _) (by first | exact HE.out.1 | exact HE.out.2.1 | exact HE.out.2.2) (by omega) I1 p1 m1 ?_;intro g c w1 T1 G1 S1 T0 KQ;obtain ⟨⟨e00,e01⟩,⟨e10,e11⟩,y10,y11⟩:=HS.out w1 S1;obtain ⟨⟨_,e01'⟩,_⟩:=HS.out _ (S1.alloc (.cells #[] 3)); (try have X2:=KQ (w.heap.size+2) _ (by omega) HE.out.2.1); (try have X3:=KQ (w.heap.size+3) _ (by omega) HE.out.2.2);clear hz KQ T0))
 all_goals exact FIN.out _ _ _ _ _ _ _ _ _ _ _ w2 g c g' c' S3 T5 T3 G1 G3
end Go.Proofs.YtfojfpnjnpkabaaGreat
