import Derived.Test.YtblgblgchkonhaaGreatGO03
import Derived.Test.YtblgblgchkonhaaGreatGO01
import Derived.Laws.OwnMore
import Derived.SizedLaws
import Derived.Deep.AppendLies
import Derived.Shelf.Abstract
import Derived.OwnWalkIn
import Derived.TacticsInMore
import Derived.LoopNIn
import Derived.LoopIn
import Derived.Sort.CutIn
import Derived.Deep.RegionHeld3
import Derived.Maps.OwnIn
import Derived.Test.YtblgblgchkonhaaGreatGO02
import Derived.Deep.RegionLaw
namespace Go.Proofs.YtblgblgchkonhaaGreat
set_option linter.unusedVariables false
abbrev Tg:=Bool × Int × Int × Int
def arT (x:Tg):Nat:=x.2.2.1.toNat
def oneT:Nat→List Tg→Bool
 | 0,[]=>true
 | _+1,[]=>false
 | 0,_ :: _=>false
 | k+1,x :: r=>oneT (k+arT x) r
def layF (N:List Nd):List Tg→List Nd × List Int
 | []=>(N,[])
 | x :: r=>if x.1=true then ((layF N r).1 ++ [(x.2.1,(layF N r).2.take (arT x),0,false,0)],((layF N r).1.length:Int) :: (layF N r).2.drop (arT x)) else ((layF N r).1,x.2.2.2 :: (layF N r).2)
def newN (l:List Tg):Nat:=l.countP (fun x=>x.1)
def TgOk (n:Nat) (x:Tg):Prop:=0≤x.2.2.1∧x.2.2.1≤6∧(x.1=true→0≤x.2.1)∧(x.1=false→x.2.2.1=0∧0≤x.2.2.2∧x.2.2.2<(n:Int))
theorem lay_new (N:List Nd) {x:Tg} (r:List Tg) (h:x.1=true):layF N (x :: r)=((layF N r).1 ++ [(x.2.1,(layF N r).2.take (arT x),0,false,0)],((layF N r).1.length:Int) :: (layF N r).2.drop (arT x)):=by
 show (if x.1=true then _ else _)=_
 rw [if_pos h]
theorem lay_old (N:List Nd) {x:Tg} (r:List Tg) (h:x.1=false):layF N (x :: r)=((layF N r).1,x.2.2.2 :: (layF N r).2):=by
 show (if x.1=true then _ else _)=_
 rw [if_neg (by rw [h];simp)]
theorem lay_len {n:Nat} (N:List Nd):∀ {l:List Tg} {k:Nat},oneT k l=true→(∀ x∈l,TgOk n x)→(layF N l).2.length=k
 | [],0,_,_=>rfl
 | [],k+1,h,_=>by cases h
 | x :: r,0,h,_=>by cases h
 | x :: r,k+1,h,ho=>by
  have ih:=lay_len N (l:=r) (k:=k+arT x) h (fun y hy=>ho y (List.mem_cons_of_mem _ hy))
  cases hx:x.1
  ·have h0:arT x=0:=by have:=(ho x (List.mem_cons_self ..)).2.2.2 hx;unfold arT;omega
   rw [lay_old N r hx]
   simp;omega
  ·rw [lay_new N r hx]
   simp;omega
theorem lay_nodes (N:List Nd):∀ l:List Tg,∃ M,(layF N l).1=N++M∧M.length=newN l∧∀ y∈M,y.2.2.1=0∧y.2.2.2.1=false∧y.2.2.2.2=0
 | []=>⟨[],by simp [layF],rfl,by simp⟩
 | x :: r=>by
  obtain ⟨M,h1,h2,h3⟩:=lay_nodes N r
  cases hx:x.1
  ·exact ⟨M,by rw [lay_old N r hx];exact h1,by simp [newN,hx] at *;exact h2,h3⟩
  ·refine ⟨M ++ [(x.2.1,(layF N r).2.take (arT x),0,false,0)],by rw [lay_new N r hx];simp [h1],by simp [newN,hx] at *;exact h2,fun y hy=>?_⟩
   rcases List.mem_append.1 hy with q | q
   ·exact h3 y q
   ·simp at q;subst q;simp
theorem lay_size (N:List Nd) (l:List Tg):(layF N l).1.length=N.length+newN l:=by
 obtain ⟨M,h1,h2,_⟩:=lay_nodes N l
 rw [h1,List.length_append,h2]
theorem lay_in {N:List Nd}:∀ {l:List Tg},(∀ x∈l,TgOk N.length x)→∀ z∈(layF N l).2,0≤z∧z<((layF N l).1.length:Int)
 | [],_,z,hz=>by simp [layF] at hz
 | x :: r,ho,z,hz=>by
  have ih:=lay_in (l:=r) (fun y hy=>ho y (List.mem_cons_of_mem _ hy))
  cases hx:x.1
  ·rw [lay_old N r hx] at hz ⊢
   have hs:=lay_size N r
   have:=(ho x (List.mem_cons_self ..)).2.2.2 hx
   simp only [List.mem_cons] at hz
   rcases hz with rfl | q
   ·refine ⟨this.2.1,?_⟩;show _<((layF N r).1.length:Int);omega
   ·exact ih z q
  ·rw [lay_new N r hx] at hz ⊢
   simp only [List.mem_cons] at hz
   rcases hz with rfl | q
   ·refine ⟨by omega,?_⟩;show _<(((layF N r).1++_).length:Int);simp;omega
   ·have:=ih z (List.mem_of_mem_drop q)
    refine ⟨this.1,?_⟩;show _<(((layF N r).1++_).length:Int);simp;omega
theorem lay_short (N:List Nd):∀ l:List Tg,(layF N l).2.length≤l.length
 | []=>Nat.le_refl _
 | x :: r=>by
  have ih:=lay_short N r
  cases hx:x.1
  ·rw [lay_old N r hx];simp;omega
  ·rw [lay_new N r hx];simp;omega
theorem one_drop:∀ {l:List Tg} {k:Nat},oneT k l=true→∀ i,∃ k', oneT k' (l.drop i)=true
 | l,k,h,0=>⟨k,by simpa using h⟩
 | [],k,h,i+1=>⟨k,by simpa using h⟩
 | x :: r,0,h,i+1=>by cases h
 | x :: r,k+1,h,i+1=>by
  obtain ⟨k', q⟩:=one_drop (l:=r) (k:=k+arT x) h i
  exact ⟨k', by simpa using q⟩
theorem newN_drop (l:List Tg) (i:Nat):newN (l.drop i)≤newN l:=by
 unfold newN
 exact List.Sublist.countP_le (List.drop_sublist i l)
theorem lay_fits {N:List Nd} {x:Tg} {r:List Tg} {k room:Nat} (h:oneT k (x :: r)=true) (ho:∀ y∈x :: r,TgOk N.length y) (hr:N.length+newN (x :: r)≤room) (hx:x.1=true) :
  arT x≤(layF N r).2.length∧arT x≤6∧mkE (layF N r).1 room x.2.1 ((layF N r).2.take (arT x))=0:=by
 have o1:=ho x (List.mem_cons_self ..)
 have o2:∀ y∈r,TgOk N.length y:=fun y hy=>ho y (List.mem_cons_of_mem _ hy)
 cases k with
 | zero=>cases h
 | succ k=>
  have hl:=lay_len (n:=N.length) N (l:=r) (k:=k+arT x) h o2
  have hs:=lay_size N r
  have ha:arT x≤6:=by unfold arT;have:=o1.2.1;omega
  have hn:newN (x :: r)=newN r+1:=by simp [newN,hx]
  refine ⟨by omega,ha,?_⟩
  unfold mkE
  have h0:=o1.2.2.1 hx
  have ht:((layF N r).2.take (arT x)).length≤6:=by simp;omega
  rw [if_neg (by omega),if_neg ?_,if_neg (by omega)]
  have:=lay_in o2
  have hin:insB ((layF N r).1.length:Int) ((layF N r).2.take (arT x))=true:=insB_iff.2 (fun z hz=>this z (List.mem_of_mem_take hz))
  rw [hin];simp
theorem lay_one {N:List Nd} {l:List Tg} (h:oneT 1 l=true) (ho:∀ x∈l,TgOk N.length x):∃ a:Nat,(layF N l).2=[(a:Int)]∧a<(layF N l).1.length:=by
 have hl:=lay_len (n:=N.length) N h ho
 have hi:=lay_in ho
 match hq:(layF N l).2,hl with
 | [z],_=>
  have:=hi z (by rw [hq];simp)
  exact ⟨z.toNat,by congr 1;omega,by omega⟩
end Go.Proofs.YtblgblgchkonhaaGreat
namespace Go.Proofs.YtblgblgchkonhaaGreat
set_option maxRecDepth 100000
set_option linter.unusedVariables false
open Go.RowKit
attribute [local go_sem ↓] Go.wp_at_zero Go.wp_at_succ
set_option maxHeartbeats 1000000 in
theorem make_yes {B:Nat→Prop} {w:World} {h g room:Nat} {l:List Nd} (p:HpB B w h g room l) (s:Int) {ao:Option Addr} {xs:List Int} {cap:Nat} (hx:Arg w ao xs cap) (he:mkE l room s xs=0) :
  Calls Tryz.prog 20 #[.pointer (some ⟨h,0,none⟩),.int .i64 s,.slice ao xs.length cap] w fun e w' => e=.returned (.tuple #[.int .i64 (l.length:Int),.int .i64 0])∧HpB (fun b=>B b∨w.heap.size≤b) w' h g room (l ++ [(s,xs,0,false,0)])∧Kept (fun k=>k=h∨k=g) w w' := by
 obtain ⟨h0,h1,h2,h3⟩:=mk_zero he
 obtain ⟨c0,c1⟩:=p.cells
 have hle:=p.le
 have hr2:=p.rm2
 have hne:=p.ne
 have C:=inside_any cap hx.at' (by omega) (l.length:Int)
 rw [h2] at C
 have i0:¬ s<0:=by omega
 have i1:(0:Int)≤(l.length:Int):=by omega
 have i2:(l.length:Int)<(room:Int):=by omega
 have i3:¬ ((l.length:Int)=(room:Int)):=by omega
 have HP:Hid (∀ ww,Same0 w ww→HpB B ww h g room l):=fun ww hk=>p.same hk
 have HC:Hid (∀ ww,Same0 w ww→Calls Tryz.prog 49 #[nodeV (s,xs,0,false,0) ao cap] ww fun e w' => ∃ bo bc,e=.returned (nodeV (s,xs,0,false,0) bo bc)∧ArgT w' bo xs bc∧(∀ a,bo=some a→ww.heap.size≤a.block)∧Same0 ww w'):=fun ww hk=>copied_any (x:=(s,xs,0,false,0)) (ac:=cap) ⟨hx.at'.same hk,hx.cap', hx.nil,hx.size⟩ (by simp;omega)
 have HF:Hid (∀ w1 bo bc,Same0 w w1→ArgT w1 bo xs bc→(∀ a,bo=some a→w.heap.size≤a.block)→HpB (fun b=>B b∨w.heap.size≤b) ((put5 w1 g (l.length * 5) (.int .i64 s) (.slice bo xs.length bc) (.int .i64 0) (.bool false) (.int .i64 0)).setCell ⟨h,1,none⟩ (.int .i64 ((l.length:Int)+1))) h g room (l ++ [(s,xs,0,false,0)])):=fun w1 bo bc k1 ha hb=>p.made k1 he ha hb
 have K0:Hid (∀ n,Same0 w (w.drewN n)):=fun n=>(Kept.refl _ _).drewN n
 clear he hx p h2 h3
 go_enter Tryz.func20,Tryz.ntmps20
 go_upto_region 5 with (first | (go_at_call 48;refine C.mono ?_;rintro e w' ⟨rfl,rfl⟩))
 clear C
 go_quiet (fail)
 go_upto_region 8 with fail
 obtain ⟨W2,hW2⟩:∃ W2,W2=w'.drewN nq:=⟨_,rfl⟩
 have K2:Same0 w' W2:=by rw [hW2];exact K0.out _
 rw [← hW2]
 clear hW2 c0 c1
 have K2d:Same0 w' W2.drew:=K2.drew
 have C0:=(HP.out _ K2d).cells.1
 have CCd:=HC.out _ K2d
 have hlr:l.length<room:=by omega
 have HT:Hid (l.length<room):=hlr
 have Hsz:Hid (w'.heap.size≤W2.drew.heap.size):=K2d.size
 go_region_with (first | (go_at_call 49;refine CCd.mono ?_;rintro e w3 ⟨bo,bc,rfl,ha,hbb,hk3⟩;have K3:=K2d.trans' hk3;have P3:=HP.out w3 K3;have cc1:=P3.cells.1;obtain ⟨u0,u1,u2,u3,u4,t0,t1,t2,t3,t4⟩:=P3.there HT.out;have f0:=P3.free.2 (l.length * 5);have f1:=P3.free.2 (l.length * 5+1);have f2:=P3.free.2 (l.length * 5+2);have f3:=P3.free.2 (l.length * 5+3);have f4:=P3.free.2 (l.length * 5+4)))
 all_goals
  obtain ⟨w5,hw5⟩:∃ w5,w5=put5 w3 g (l.length * 5) (.int .i64 s) (.slice bo xs.length bc) (.int .i64 0) (.bool false) (.int .i64 0):=⟨_,rfl⟩
  have K5:Kept (fun k=>k=g) w3 w5:=by rw [hw5];exact put5_kept _ _ _ _ _ _ _ _
  have b5:=K5.at P3.box hne
  have c5:w5.cell? ⟨h,1,none⟩=some (.int .i64 (l.length:Int)):=cellAt b5 1
  have e5:w5.frozen? ⟨h,1,none⟩=false:=frozenAt b5 1
  have F1:=HF.out w3 bo bc K3 ha (fun a e=>Nat.le_trans Hsz.out (hbb a e))
  have F2:=made_kept K3 h g (l.length * 5) (.int .i64 s) (.slice bo xs.length bc) (.int .i64 0) (.bool false) (.int .i64 0) (.int .i64 ((l.length:Int)+1))
  rw [← hw5] at F1 F2
  have FF:Hid (HpB (fun b=>B b∨w'.heap.size≤b) (w5.setCell ⟨h,1,none⟩ (.int .i64 ((l.length:Int)+1))) h g room (l ++ [(s,xs,0,false,0)])∧Kept (fun k=>k=h∨k=g) w' (w5.setCell ⟨h,1,none⟩ (.int .i64 ((l.length:Int)+1)))):=⟨F1,F2⟩
  change Exit.then _ _ Exit.normal _ (put5 w3 g (l.length * 5) (.int .i64 s) (.slice bo xs.length bc) (.int .i64 0) (.bool false) (.int .i64 0))
  rw [← hw5]
  clear hw5 F1 F2 b5 t0 t1 t2 t3 t4 f0 f1 f2 f3 f4 cc1 P3 C0 CCd ha hbb HF HC HP
  go_wp2
  go_ret2
  exact ⟨rfl,FF.out.1,FF.out.2⟩
end Go.Proofs.YtblgblgchkonhaaGreat
namespace Go.Proofs.YtblgblgchkonhaaGreat
set_option linter.unusedVariables false
structure Bf (l:List Nd) (top N:Nat) (met:List Bool) (F:List Nat):Prop where
 len:met.length=N
 top' : top∈F
 each:∀ j∈F,j<l.length∧Rc l top j
 iff:∀ j,met[j]? = some true ↔ j∈F
 cnt:F.length=met.count true
def Cl (l:List Nd) (F:List Nat) (i:Nat):Prop:=∀ k (h:k<F.length),k<i→∀ j,Ed l F[k] j→j∈F
theorem Bf.le {l:List Nd} {top N:Nat} {met:List Bool} {F:List Nat} (h:Bf l top N met F):F.length≤N:=by
 rw [h.cnt,← h.len];exact List.count_le_length
theorem Bf.start {l:List Nd} {top N:Nat} (ht:top<l.length) (hN:l.length≤N):Bf l top N ((List.replicate N false).set top true) [top]:=by
 refine ⟨by simp,by simp,?_,?_,?_⟩
 ·intro j hj;simp at hj;subst hj;exact ⟨ht,Rc.refl l j⟩
 ·intro j
  rw [List.getElem?_set]
  by_cases e:top=j
  ·subst e;simp;omega
  ·simp [e,List.getElem?_replicate]
   intro h;exact e h.symm
 ·rw [List.count_set (by simp;omega),List.count_replicate]
  simp
theorem Bf.push {l:List Nd} {top N:Nat} {met:List Bool} {F:List Nat} (h:Bf l top N met F) {b:Nat} (hb:met[b]? = some false) (hl:b<l.length) (hr:Rc l top b):Bf l top N (met.set b true) (F ++ [b]):=by
 obtain ⟨hlt,hv⟩:=List.getElem?_eq_some_iff.1 hb
 refine ⟨by simp [h.len],by simp [h.top'],?_,?_,?_⟩
 ·intro j hj
  rcases List.mem_append.1 hj with q | q
  ·exact h.each j q
  ·simp at q;subst q;exact ⟨hl,hr⟩
 ·intro j
  rw [List.getElem?_set]
  by_cases e:b=j
  ·subst e;simp [hlt]
  ·rw [if_neg e,h.iff]
   simp
   intro q;exact absurd q.symm e
 ·rw [List.count_set hlt,List.length_append,h.cnt]
  simp [hv]
theorem Cl.push {l:List Nd} {F:List Nat} {i:Nat} (h:Cl l F i) (hi:i≤F.length) (b:Nat):Cl l (F ++ [b]) i:=by
 intro k hk hki j e
 rw [List.getElem_append_left (by omega)] at e
 exact List.mem_append.2 (.inl (h k (by omega) hki j e))
theorem Bf.done {l:List Nd} {top N:Nat} {met:List Bool} {F:List Nat} (h:Bf l top N met F) (hc:Cl l F F.length) (a:Nat):met[a]? = some true ↔ Rc l top a:=by
 rw [h.iff]
 refine ⟨fun q=>(h.each a q).2,fun q=>?_⟩
 refine Rc.in (S:=fun j=>j∈F) (fun i j hi e=>?_) h.top' q
 obtain ⟨k,hk,rfl⟩:=List.mem_iff_getElem.1 hi
 exact hc k hk hk j e
theorem Bf.has {l:List Nd} {top N:Nat} {met:List Bool} {F:List Nat} (h:Bf l top N met F) {a:Nat} (q:met[a]? = some true):Rc l top a:=(h.each a ((h.iff a).1 q)).2
theorem Cl.next {l:List Nd} {F:List Nat} {i:Nat} (h:Cl l F i) (hi:i<F.length) (hd:∀ z∈(if h:F[i]<l.length then downL l[F[i]] else []),z.toNat∈F):Cl l F (i+1):=by
 intro k hk hki j e
 by_cases q:k=i
 ·subst q
  obtain ⟨hlt,hm⟩:=e
  have:=hd (j:Int) (by rw [dif_pos hlt];exact hm)
  simpa using this
 ·exact h k hk (by omega) j e
end Go.Proofs.YtblgblgchkonhaaGreat
namespace Go.Proofs.YtblgblgchkonhaaGreat
set_option maxRecDepth 100000
set_option linter.unusedVariables false
open Go.RowKit
attribute [local go_sem ↓] Go.wp_at_zero Go.wp_at_succ
set_option maxHeartbeats 1000000 in
theorem next_any {w:World} {x:Nd} {ao:Option Addr} {ac:Nat} (hx:Arg w ao x.2.1 ac) :
  Calls Tryz.prog 82 #[nodeV x ao ac] w fun e w' => ∃ bo bc,e=.returned (.slice bo (downL x).length bc)∧IntsAt w' bo (downL x)∧(∀ a,bo=some a→(ao=some a∧downL x=x.2.1)∨(w.heap.size≤a.block∧a.block<w'.heap.size))∧Same0 w w' := by
 obtain ⟨W0,hW0⟩:∃ W0,W0=w.alloc (.cells #[.int .i64 x.1,.slice ao x.2.1.length ac,.int .i64 x.2.2.1,.bool x.2.2.2.1,.int .i64 x.2.2.2.2] 76):=⟨_,rfl⟩
 have k0:Same0 w W0:=by rw [hW0];exact (Kept.refl _ w).alloc _
 have hb:W0.heap[w.heap.size]? = some (.cells #[.int .i64 x.1,.slice ao x.2.1.length ac,.int .i64 x.2.2.1,.bool x.2.2.2.1,.int .i64 x.2.2.2.2] 76 (0,0)):=by rw [hW0];exact heap_alloc_new w _
 obtain ⟨b0,b1,b2,b3,b4⟩:=box5 hb
 have hz:=k0.size
 obtain ⟨pb,hp⟩:∃ pb,x.2.2.2.1=pb:=⟨_,rfl⟩
 cases pb
 ·have hd:downL x=x.2.1:=by unfold downL;rw [hp];rfl
  have H:Hid (IntsAt W0 ao x.2.1∧Same0 w W0):=⟨hx.at'.same k0,k0⟩
  rw [hd]
  rw [hp] at b3
  clear hd hx k0 hb hz hp
  go_enter Tryz.func82,Tryz.ntmps82
  go_upto_region 1 with fail
  rw [← hW0]
  clear hW0
  go_wp2
  go_ret
  exact ⟨ao,ac,rfl,H.out.1,fun a e=>.inl ⟨e,by first | trivial | rfl⟩,H.out.2⟩
 ·have hd:downL x=[x.2.2.2.2]:=by unfold downL;rw [hp];rfl
  have H:Hid (IntsAt (W0.alloc (.cells #[.int .i64 x.2.2.2.2] 3)) (some ⟨W0.heap.size,0,none⟩) [x.2.2.2.2]∧(∀ a,some (⟨W0.heap.size,0,none⟩:Addr)=some a→(ao=some a∧[x.2.2.2.2]=x.2.1)∨(w.heap.size≤a.block∧a.block<(W0.alloc (.cells #[.int .i64 x.2.2.2.2] 3)).heap.size))∧Same0 w (W0.alloc (.cells #[.int .i64 x.2.2.2.2] 3))):=⟨ints_one _ _,fun a e=>by cases e;exact .inr ⟨hz,by simp⟩,k0.alloc _⟩
  rw [hd]
  rw [hp] at b3
  clear hd hx k0 hb hz hp
  go_enter Tryz.func82,Tryz.ntmps82
  go_upto_region 1 with fail
  rw [← hW0]
  clear hW0
  go_wp2
  go_ret
  exact ⟨_,1,rfl,H.out.1,H.out.2.1,H.out.2.2⟩
theorem info_boolT:(Tryz.prog.info? 4).map (fun i=>(i.zero,i.size,i.bytes))=some (some (.bool false),1,1):=by kernel_rfl
def bv (m:List Bool):List Value:=m.map Value.bool
theorem bv_set (m:List Bool) (k:Nat) (b:Bool):bv (m.set k b)=(bv m).set k (.bool b):=by simp [bv,List.map_set]
theorem made_bools (n:Nat):(madeCells (Value.bool false).cells (n * 1)).toList=bv (List.replicate n false):=by
 rw [Nat.mul_one,show (Value.bool false).cells = #[Value.bool false] from rfl,toList_madeCells_one]
 simp [bv]
theorem row_bool {w:World} {base g N:Nat} {m:List Bool} (h:w.ownsRow base 4 1 (.slice (some ⟨g,0,none⟩) N N) N (bv m)) {k:Nat} (hk:k<N):∃ b,m[k]? = some b∧w.cell? ⟨g,k,none⟩=some (.bool b)∧w.frozen? ⟨g,k,none⟩=false:=by
 have hl:m.length=N:=by have:=h.1;simp [bv] at this;omega
 refine ⟨m[k]'(by omega),by simp [hl,hk],?_,h.frozenAt k⟩
 rw [h.cellAt k (by omega)]
 simp [bv,hl,hk]
theorem ofN_snoc (F:List Nat) (b:Nat):ofN (F ++ [b])=ofN F ++ [(b:Int)]:=by simp [ofN]
theorem ofN_len' (F:List Nat):(ofN F).length=F.length:=by simp [ofN]
theorem ofN_at {F:List Nat} {i:Nat} (h:i<(ofN F).length):(ofN F)[i]=((F[i]'(by simpa [ofN] using h):Nat):Int):=by simp [ofN]
structure NsAt (w:World) (g N:Nat) (l:List Nd):Prop where
 lt:g<w.heap.size
 le:l.length≤N
 big:N≤4000
 each:∀ i (hi:i<l.length),NdC (fun b=>b<w.heap.size) w g (i * 5) l[i]
 inl:InL l
 few:∀ x∈l,x.2.1.length≤6
theorem NsAt.same {w w' : World} {g N:Nat} {l:List Nd} (h:NsAt w g N l) (hk:Same0 w w'):NsAt w' g N l:=
 ⟨Nat.lt_of_lt_of_le h.lt hk.size,h.le,h.big,fun i hi=>((h.each i hi).kept h.lt hk (fun f=>f) (fun _ _ f=>f.elim)).mono (fun k _ _ e=>Nat.lt_of_lt_of_le e hk.size),h.inl,h.few⟩
theorem HpB.ns {B:Nat→Prop} {w:World} {h g room:Nat} {l:List Nd} (p:HpB B w h g room l):NsAt w g room l:=
 ⟨p.ltG,p.le,p.rm2,fun i hi=>(p.each i hi).mono (fun k hk _ _=>hk),p.inl,fun x hx=>(may_facts (p.may x hx)).2.1⟩
structure StAt' (w wr:World) (mb N:Nat) (met:List Bool) (F:List Nat) (v:Value):Prop where
 mt:wr.ownsRow w.heap.size 4 1 (.slice (some ⟨mb,0,none⟩) N N) N (bv met)
 fd:Row (mb+1) wr v (ofN F)
 kp:Same0 w wr
 lo:w.heap.size≤mb
theorem StAt'.same {w wr w' : World} {mb N:Nat} {met:List Bool} {F:List Nat} {v:Value} (h:StAt' w wr mb N met F v) (hk:Same0 wr w'):StAt' w w' mb N met F v:=
 ⟨hk.row h.mt (fun _ _ f=>f),hk.row h.fd (fun _ _ f=>f),h.kp.trans' hk,h.lo⟩
theorem wpList_pushN {w0:World} {ops:Array Oper} {rest:List Oper} {o:Oper} {a:Act} {Q:Exit→Act→World→Prop} (hgd:o.guard=none) (s x:Operand) (t:TypeId)
  (ho:o.op=.call { callee:=.builtin .append,args:=#[s,x],argTypes:=#[t,t] }) (ht:Tryz.prog.underlying t=some (.slice 3))
  (base:Nat) (xs:List Int) (v:Value) (hs:a.eval s=v) (hr:Row base w0 v xs) (y:Int) (n:Nat) (hn:w0.heap.size=n) (hx:a.eval x=.slice (some ⟨n,0,none⟩) 1 1) (hb:base≤w0.heap.size) (hsz:(xs.length+1) * 8≤140737488355328)
  (h:∀ g cap w', Row base w' (.slice (some ⟨g,0,none⟩) (xs.length+1) cap) (xs ++ [y])→Kept (fun k=>v.ownBlock=some k) w0 w' → (v.ownBlock=some g∨w0.heap.size≤g)→wpList Tryz.prog ops Q rest (a.put o.dst (.slice (some ⟨g,0,none⟩) (xs.length+1) cap)) w') :
  wpList Tryz.prog ops Q (o :: rest) a (w0.alloc (.cells #[.int .i64 y] 3)):=by
 subst hn
 exact wpList_push hgd s x t ho ht base xs v hs hr y hx hb hsz h
theorem StAt'.put {w wr:World} {mb N:Nat} {met:List Bool} {F:List Nat} {v:Value} (h:StAt' w wr mb N met F v) (b:Nat):StAt' w (wr.setCell ⟨mb,b,none⟩ (.bool true)) mb N (met.set b true) F v∧Kept (fun k=>k=mb) wr (wr.setCell ⟨mb,b,none⟩ (.bool true)):=by
 have K:Kept (fun k=>k=mb) wr (wr.setCell ⟨mb,b,none⟩ (.bool true)):=Kept.setCell (S:=fun k=>k=mb) (Kept.refl _ _) (p:=⟨mb,b,none⟩) (fun _=>rfl) _
 refine ⟨⟨by rw [bv_set];exact (h.mt.stored b _).1,K.row h.fd (fun k e q=>?_),h.kp.own h.lo _,h.lo⟩,K⟩
 have:=(h.fd.lt k e).1
 omega
theorem StAt'.push {w wr w4:World} {mb N:Nat} {met:List Bool} {F:List Nat} {v v' : Value} {b:Nat} (h:StAt' w wr mb N met F v) (hr:Row (mb+1) w4 v' (ofN F ++ [(b:Int)])) (hk:Kept (fun k=>v.ownBlock=some k) wr w4):StAt' w w4 mb N met (F ++ [b]) v' := by
 have lo:=h.lo
 refine ⟨hk.row h.mt (fun k e q=>?_),by rw [ofN_snoc];exact hr,h.kp.trans hk (fun i hi e=>?_),h.lo⟩
 ·have:=(h.fd.lt k q).1
  have e' : mb=k:=Option.some.inj e
  omega
 ·have:=(h.fd.lt i e).1
  omega
def isMk (n:Int):Bool:=decide (0≤n) && decide (n≤2)
set_option maxHeartbeats 1000000 in
theorem isMark_any (n:Int) (w:World):Calls Tryz.prog 94 #[.int .i64 n] w fun e w' => e=.returned (.bool (isMk n))∧w' = w:=by
 by_cases h1:0≤n
 ·by_cases h2:n≤2
  ·have H:Hid (isMk n=true):=by show _=_;simp [isMk,h1,h2]
   go_enter Tryz.func94,Tryz.ntmps94
   go_wp2
   go_ret
   exact ⟨ret_bool H.out.symm,rfl⟩
  ·have H:Hid (isMk n=false):=by show _=_;simp [isMk,h1,h2]
   go_enter Tryz.func94,Tryz.ntmps94
   go_wp2
   go_ret
   exact ⟨ret_bool H.out.symm,rfl⟩
 ·have H:Hid (isMk n=false):=by show _=_;simp [isMk,h1]
  go_enter Tryz.func94,Tryz.ntmps94
  go_wp2
  go_ret
  exact ⟨ret_bool H.out.symm,rfl⟩
def marked (x:Nd) (m:Int):Nd:=(x.1,x.2.1,m,x.2.2.2.1,x.2.2.2.2)
theorem may_marked {n:Nat} {x:Nd} (h:mayB n x=true) {m:Int} (hm:0≤m∧m≤2) (hp:x.2.2.2.1=true→m=0):mayB n (marked x m)=true:=by
 unfold mayB at h ⊢
 unfold marked
 cases hq:x.2.2.2.1
 ·simp [hq] at h ⊢
  exact ⟨⟨⟨⟨h.1.1.1.1,hm.1⟩,hm.2⟩,h.1.2⟩,h.2⟩
 ·simp [hq] at h ⊢
  have:=hp hq
  subst this
  exact ⟨⟨⟨⟨h.1.1.1.1,hm.1⟩,hm.2⟩,h.1.2⟩,⟨⟨⟨h.2.1.1.1,h.2.1.1.2⟩,rfl⟩,h.2.2⟩⟩
theorem ac_same {l l' : List Nd} (h:Ac l) (hl:l'.length=l.length) (he:∀ i (h1:i<l'.length) (h2:i<l.length),downL l'[i]=downL l[i]):Ac l' := by
 obtain ⟨r,hr⟩:=h
 refine ⟨r,fun i j e=>hr i j ?_⟩
 obtain ⟨h1,h2⟩:=e
 exact ⟨by omega,by rw [he i h1 (by omega)] at h2;exact h2⟩
theorem HpB.marked {B:Nat→Prop} {w:World} {h g room:Nat} {l:List Nd} (p:HpB B w h g room l) {i:Nat} (hi:i<l.length) {m:Int} (hm:0≤m∧m≤2) (hp:l[i].2.2.2.1=true→m=0) :
  HpB B (w.setCell ⟨g,i * 5+2,none⟩ (.int .i64 m)) h g room (l.set i (YtblgblgchkonhaaGreat.marked l[i] m))∧Kept (fun k=>k=g) w (w.setCell ⟨g,i * 5+2,none⟩ (.int .i64 m)):=by
 have K:Kept (fun k=>k=g) w (w.setCell ⟨g,i * 5+2,none⟩ (.int .i64 m)):=Kept.setCell (S:=fun k=>k=g) (Kept.refl _ _) (p:=⟨g,i * 5+2,none⟩) (fun _=>rfl) _
 obtain ⟨cs,h1,h2⟩:=p.blk
 have q:=setAt h1 (i * 5+2) (.int .i64 m)
 have hle:=p.le
 have gi:∀ k,k=g→NotI w k:=fun k e cur h=>by rw [e,h1] at h;cases h
 have old:∀ o,o≠i * 5+2→(w.setCell ⟨g,i * 5+2,none⟩ (.int .i64 m)).cell? ⟨g,o,none⟩=w.cell? ⟨g,o,none⟩:=fun o ho=>by
  rw [cellAt q,cellAt h1,Array.getElem?_setIfInBounds,if_neg (by omega)]
 have new:(w.setCell ⟨g,i * 5+2,none⟩ (.int .i64 m)).cell? ⟨g,i * 5+2,none⟩=some (.int .i64 m):=by
  rw [cellAt q,Array.getElem?_setIfInBounds,if_pos rfl,if_pos (by omega)]
 refine ⟨⟨by rw [List.length_set];exact K.at p.box p.ne,⟨_,q,by simpa using h2⟩,p.rm1,p.rm2,by simpa using hle,fun j hj=>?_,?_,?_⟩,K⟩
 ·have hj' : j<l.length:=by simpa using hj
  obtain ⟨ao,ac,n0,n1,n2,n3,n4,n5,n6⟩:=p.each j hj'
  by_cases e:j=i
  ·subst e
   rw [List.getElem_set_self]
   exact ⟨ao,ac,(old _ (by omega)).trans n0,(old _ (by omega)).trans n1,new,(old _ (by omega)).trans n3,(old _ (by omega)).trans n4,n5.kept K gi,n6⟩
  ·rw [List.getElem_set_ne (by omega)]
   exact ⟨ao,ac,(old _ (by omega)).trans n0,(old _ (by omega)).trans n1,(old _ (by omega)).trans n2,(old _ (by omega)).trans n3,(old _ (by omega)).trans n4,n5.kept K gi,n6⟩
 ·intro x hx
  rw [List.length_set]
  rcases List.mem_or_eq_of_mem_set hx with e | e
  ·exact p.may x e
  ·subst e;exact may_marked (p.may _ (List.getElem_mem hi)) hm hp
 ·refine ac_same p.ac (by simp) (fun j h3 h4=>?_)
  by_cases e:j=i
  ·subst e;rw [List.getElem_set_self];rfl
  ·rw [List.getElem_set_ne (by omega)]
theorem ArgT.nil (w:World):ArgT w none [] 0:=⟨⟨.inl rfl,Nat.le_refl _,fun _=>⟨rfl,rfl⟩,by simp⟩,fun a e=>by cases e⟩
abbrev indN (t:Nat):Nd:=(0,[],0,true,(t:Int))
theorem may_ind {n t:Nat} (h:t<n):mayB n (indN t)=true:=by
 unfold mayB
 simp;omega
theorem HpB.pointed {B:Nat→Prop} {w:World} {h g room:Nat} {l:List Nd} (p:HpB B w h g room l) {i t:Nat} (hi:i<l.length) (ht:t<l.length) (hn:¬ Rc l t i) :
  HpB B (put5 w g (i * 5) (.int .i64 0) (.slice none 0 0) (.int .i64 0) (.bool true) (.int .i64 (t:Int))) h g room (l.set i (indN t))∧Kept (fun k=>k=g) w (put5 w g (i * 5) (.int .i64 0) (.slice none 0 0) (.int .i64 0) (.bool true) (.int .i64 (t:Int))):=by
 have hle:=p.le
 obtain ⟨q1,q2,q3⟩:=put5_nodes (B' := B) (i:=i) (x:=indN t) (ao:=none) (ac:=0) p.blk p.each (by omega) (ArgT.nil w) (fun a e=>by cases e) (fun k e=>e)
 have K:=put5_kept w g (i * 5) (.int .i64 0) (.slice none 0 0) (.int .i64 0) (.bool true) (.int .i64 (t:Int))
 refine ⟨⟨by rw [List.length_set];exact K.at p.box p.ne,q2,p.rm1,p.rm2,by simpa using hle,fun j hj=>?_,?_,?_⟩,K⟩
 ·have hj' : j<l.length:=by simpa using hj
  by_cases e:j=i
  ·subst e;rw [List.getElem_set_self];exact q1
  ·rw [List.getElem_set_ne (by omega)];exact q3 j hj' e
 ·intro x hx
  rw [List.length_set]
  rcases List.mem_or_eq_of_mem_set hx with e | e
  ·exact p.may x e
  ·subst e;exact may_ind ht
 ·refine p.ac.point hn _ (fun j hj=>?_)
  unfold downL at hj
  simp at hj
  omega
abbrev I64 (c:Int):Prop:=-9223372036854775808≤c∧c<9223372036854775808
abbrev Hp (w:World) (h g room:Nat) (l:List Nd):Prop:=HpB (fun _=>True) w h g room l
theorem HpB.any {B:Nat→Prop} {w:World} {h g room:Nat} {l:List Nd} (p:HpB B w h g room l):Hp w h g room l:=p.mono (fun _ _ _ _=>trivial)
theorem arg_one (w:World) (z:Int):Arg (w.alloc (.cells #[.int .i64 z] 3)) (some ⟨w.heap.size,0,none⟩) [z] 1:=⟨ints_one w z,Nat.le_refl _,(fun e=>by cases e),by simp⟩
theorem Same0.heap {w w1 w2:World} (k:Same0 w w1) {h g:Nat} (hh:w.heap.size≤h) (hg:w.heap.size≤g) (k2:Kept (fun k=>k=h∨k=g) w1 w2):Same0 w w2:=k.trans k2 (fun i hi e=>by omega)
end Go.Proofs.YtblgblgchkonhaaGreat
namespace Go.Proofs.YtblgblgchkonhaaGreat
set_option maxRecDepth 100000
set_option linter.unusedVariables false
open Go.RowKit Go.Deep
theorem i64_wf {n:Int} (h:(Lit.int .i64 n).wf=true):I64 n:=by
 have h1:(IntKind.i64.min≤n)∧n≤IntKind.i64.max:=by simpa [Lit.wf] using h
 have e1:IntKind.i64.min = -9223372036854775808:=by decide
 have e2:IntKind.i64.max=9223372036854775807:=by decide
 omega
abbrev Raw4:=Int × Int × Int × Int
def Raw4.ok (x:Raw4):Prop:=I64 x.1∧I64 x.2.1∧I64 x.2.2.1∧I64 x.2.2.2
def RawsAt (w:World) (ro:Option Addr) (rs:List Raw4):Prop:=
 rs=[]∨∃ b off,ro=some ⟨b,off,none⟩∧b<w.heap.size∧∀ i (h:i<rs.length),w.cell? ⟨b,off+i * 4,none⟩=some (.int .i64 rs[i].1)∧w.cell? ⟨b,off+i * 4+1,none⟩=some (.int .i64 rs[i].2.1)∧w.cell? ⟨b,off+i * 4+2,none⟩=some (.int .i64 rs[i].2.2.1)∧w.cell? ⟨b,off+i * 4+3,none⟩=some (.int .i64 rs[i].2.2.2)
theorem RawsAt.same {w w' : World} {ro:Option Addr} {rs:List Raw4} (h:RawsAt w ro rs) (hk:Same0 w w'):RawsAt w' ro rs:=by
 refine h.imp id ?_
 rintro ⟨b,off,rfl,hlt,hc⟩
 refine ⟨b,off,rfl,Nat.lt_of_lt_of_le hlt hk.size,fun i hi=>?_⟩
 obtain ⟨h0,h1,h2,h3⟩:=hc i hi
 exact ⟨(hk.cell (p:=⟨b,off+i * 4,none⟩) hlt (fun f=>f)).trans h0,(hk.cell (p:=⟨b,off+i * 4+1,none⟩) hlt (fun f=>f)).trans h1,(hk.cell (p:=⟨b,off+i * 4+2,none⟩) hlt (fun f=>f)).trans h2,(hk.cell (p:=⟨b,off+i * 4+3,none⟩) hlt (fun f=>f)).trans h3⟩
theorem RawsAt.get {w:World} {ro:Option Addr} {rs:List Raw4} (h:RawsAt w ro rs) {i:Nat} (hi:i<rs.length):∃ b off,ro=some ⟨b,off,none⟩∧w.cell? ⟨b,off+i * 4,none⟩=some (.int .i64 rs[i].1)∧w.cell? ⟨b,off+i * 4+1,none⟩=some (.int .i64 rs[i].2.1)∧w.cell? ⟨b,off+i * 4+2,none⟩=some (.int .i64 rs[i].2.2.1)∧w.cell? ⟨b,off+i * 4+3,none⟩=some (.int .i64 rs[i].2.2.2):=by
 rcases h with rfl | ⟨b,off,e,hlt,hc⟩
 ·simp at hi
 ·exact ⟨b,off,e,hc i hi⟩
section
variable {H : Type} {enc : TypeId × Value → H} {w : World} {spare : Nat → Bool} {held : Bool}
theorem open_ints64 {t fuel:Nat} {ao:Option Addr} {len cap:Nat} {x:DataW H × List MemPlace} (ht:Tryz.prog.underlying t=some (.slice 3)) (h:DataW.trod enc Tryz.prog w 0 spare held fuel t [.slice ao len cap]=some x) (hw:∀ n∈x.1.weights Tryz.prog t,n≤reachBytes) :
  ∃ xs:List Int,xs.length=len∧Arg w ao xs cap∧∀ z∈xs,I64 z:=by
 obtain ⟨ao', cap', xs,e,ha⟩:=open_ints ht h hw
 simp only [List.cons.injEq,Value.slice.injEq,and_true] at e
 obtain ⟨rfl,rfl,rfl⟩:=e
 refine ⟨xs,rfl,ha,fun z hz=>?_⟩
 obtain ⟨i,hi,rfl⟩:=List.mem_iff_getElem.1 hz
 obtain ⟨b,off,e,hlt,hc⟩:=ha.at'.get hi
 rcases open_elems ht cells_int (by omega) h with ⟨e1,_,_⟩ | ⟨a', e1,hl1,hl2,hall⟩
 ·rw [e] at e1;cases e1
 ·rw [e] at e1
  cases e1
  obtain ⟨_,_,cs,n,y,hl,hcell,hy⟩:=hall i hi
  obtain ⟨z,e2,_,wf⟩:=DataW.trod_int Tryz.underlying3 hy
  subst e2
  have q:=hcell 0 (by omega)
  simp at q
  rw [hc] at q
  simp at q
  rw [q]
  exact i64_wf wf
end
end Go.Proofs.YtblgblgchkonhaaGreat
namespace Go.Proofs.YtblgblgchkonhaaGreat
set_option maxRecDepth 100000
set_option linter.unusedVariables false
open Go.RowKit
attribute [local go_sem ↓] Go.wp_at_zero Go.wp_at_succ
def FullL (l:List Nd):Prop:=∀ j (h:j<l.length),l[j].2.2.2.1=false∧(1≤j→∃ t,l[j].2.1=[(j:Int)-1,t])
theorem FullL.snoc {l:List Nd} (h:FullL l) {s:Int} {xs:List Int} (hx:1≤l.length→∃ t,xs=[(l.length:Int)-1,t]):FullL (l ++ [(s,xs,0,false,0)]):=by
 intro j hj
 by_cases e:j<l.length
 ·rw [List.getElem_append_left e];exact h j e
 ·obtain rfl:j=l.length:=by simp at hj;omega
  simp
  exact hx
def NCl (B:Nat→Prop) (w:World) (vs:List Value) (l:List Nd):Prop:=
 vs.length=l.length * 5∧∀ i (h:i<l.length),∃ ao ac,vs[i * 5]? = some (.int .i64 l[i].1)∧vs[i * 5+1]? = some (.slice ao l[i].2.1.length ac)∧vs[i * 5+2]? = some (.int .i64 l[i].2.2.1)∧vs[i * 5+3]? = some (.bool l[i].2.2.2.1)∧vs[i * 5+4]? = some (.int .i64 l[i].2.2.2.2)∧ArgT w ao l[i].2.1 ac∧∀ a,ao=some a→B a.block
theorem NCl.nil (B:Nat→Prop) (w:World):NCl B w [] []:=⟨rfl,fun i h=>absurd h (Nat.not_lt_zero _)⟩
theorem NCl.kept {B S:Nat→Prop} {w w' : World} {vs:List Value} {l:List Nd} (h:NCl B w vs l) (hk:Kept S w w') (hS:∀ k,B k→S k→NotI w k):NCl B w' vs l:=by
 refine ⟨h.1,fun i hi=>?_⟩
 obtain ⟨ao,ac,h0,h1,h2,h3,h4,h5,h6⟩:=h.2 i hi
 refine ⟨ao,ac,h0,h1,h2,h3,h4,h5.kept' hk (fun a e s=>?_),h6⟩
 obtain ⟨cur,hc⟩:=h5.2 a e
 exact hS _ (h6 a e) s cur hc
theorem NCl.mono {B B' : Nat→Prop} {w:World} {vs:List Value} {l:List Nd} (h:NCl B w vs l) (hB:∀ k,k<w.heap.size→B k→B' k):NCl B' w vs l:=by
 refine ⟨h.1,fun i hi=>?_⟩
 obtain ⟨ao,ac,h0,h1,h2,h3,h4,h5,h6⟩:=h.2 i hi
 exact ⟨ao,ac,h0,h1,h2,h3,h4,h5,fun a e=>hB _ (h5.lt e) (h6 a e)⟩
theorem NCl.same {B:Nat→Prop} {w w' : World} {vs:List Value} {l:List Nd} (h:NCl B w vs l) (hk:Same0 w w'):NCl B w' vs l:=h.kept hk (fun _ _ f=>f.elim)
theorem NCl.snoc {B:Nat→Prop} {w:World} {vs:List Value} {l:List Nd} (h:NCl B w vs l) {x:Nd} {ao:Option Addr} {ac:Nat} (ha:ArgT w ao x.2.1 ac) (hb:∀ a,ao=some a→B a.block):NCl B w (vs ++ [.int .i64 x.1,.slice ao x.2.1.length ac,.int .i64 x.2.2.1,.bool x.2.2.2.1,.int .i64 x.2.2.2.2]) (l ++ [x]):=by
 refine ⟨by simp [h.1];omega,fun i hi=>?_⟩
 by_cases e:i<l.length
 ·rw [List.getElem_append_left e]
  obtain ⟨ao,ac,h0,h1,h2,h3,h4,h5,h6⟩:=h.2 i e
  have hl:=h.1
  exact ⟨ao,ac,by rw [List.getElem?_append_left (by omega)];exact h0,by rw [List.getElem?_append_left (by omega)];exact h1,by rw [List.getElem?_append_left (by omega)];exact h2,by rw [List.getElem?_append_left (by omega)];exact h3,by rw [List.getElem?_append_left (by omega)];exact h4,h5,h6⟩
 ·obtain rfl:i=l.length:=by simp at hi;omega
  have hl:=h.1
  have t:∀ j,(vs ++ [.int .i64 x.1,.slice ao x.2.1.length ac,.int .i64 x.2.2.1,.bool x.2.2.2.1,.int .i64 x.2.2.2.2])[l.length * 5+j]? = [Value.int .i64 x.1,.slice ao x.2.1.length ac,.int .i64 x.2.2.1,.bool x.2.2.2.1,.int .i64 x.2.2.2.2][j]? := fun j=>by
   rw [List.getElem?_append_right (by omega),hl,Nat.add_sub_cancel_left]
  simp only [List.getElem_append_right (Nat.le_refl _),Nat.sub_self,List.getElem_cons_zero]
  exact ⟨ao,ac,t 0,t 1,t 2,t 3,t 4,ha,hb⟩
def NRow (B:Nat→Prop) (base:Nat) (w:World) (v:Value) (l:List Nd):Prop:=∃ vs,w.ownsRow base 76 5 v l.length vs∧NCl B w vs l
theorem NRow.nil (B:Nat→Prop) (base:Nat) (w:World):NRow B base w (.slice none 0 0) []:=⟨[],World.ownsRow_nil _ _ _ _,NCl.nil B w⟩
theorem NRow.kept {B S:Nat→Prop} {base:Nat} {w w' : World} {v:Value} {l:List Nd} (h:NRow B base w v l) (hk:Kept S w w') (hn:∀ k,v.ownBlock=some k→¬ S k) (hS:∀ k,B k→S k→NotI w k):NRow B base w' v l:=by
 obtain ⟨vs,h1,h2⟩:=h
 exact ⟨vs,hk.row h1 hn,h2.kept hk hS⟩
theorem NRow.same {B:Nat→Prop} {base:Nat} {w w' : World} {v:Value} {l:List Nd} (h:NRow B base w v l) (hk:Same0 w w'):NRow B base w' v l:=h.kept hk (fun _ _ f=>f) (fun _ _ f=>f.elim)
theorem NRow.shape {B:Nat→Prop} {base:Nat} {w:World} {v:Value} {l:List Nd} (h:NRow B base w v l):∃ ao cap,v=.slice ao l.length cap:=by
 obtain ⟨vs,h1,_⟩:=h
 exact row_shape h1
theorem NRow.block {B:Nat→Prop} {base:Nat} {w:World} {v:Value} {l:List Nd} (h:NRow B base w v l) {k:Nat} (e:v.ownBlock=some k):base≤k∧k<w.heap.size∧NotI w k:=by
 obtain ⟨vs,h1,_⟩:=h
 rcases h1.2 with ⟨rfl,_⟩ | ⟨g,cap,cur,rfl,hb,hg,_⟩
 ·cases e
 ·obtain rfl:g=k:=Option.some.inj e
  exact ⟨hb,lt_of_at hg,fun c hc=>by rw [hg] at hc;cases hc⟩
def NsM (B:Nat→Prop) (w:World) (ao:Option Addr) (l:List Nd):Prop:=l=[]∨∃ b off,ao=some ⟨b,off,none⟩∧b<w.heap.size∧∀ i (hi:i<l.length),NdC B w b (off+i * 5) l[i]
theorem NsM.same {B:Nat→Prop} {w w' : World} {ao:Option Addr} {l:List Nd} (h:NsM B w ao l) (hk:Same0 w w'):NsM B w' ao l:=by
 refine h.imp id ?_
 rintro ⟨b,off,rfl,hlt,hc⟩
 exact ⟨b,off,rfl,Nat.lt_of_lt_of_le hlt hk.size,fun i hi=>(hc i hi).kept hlt hk (fun f=>f) (fun _ _ f=>f.elim)⟩
theorem NRow.mem {B:Nat→Prop} {base:Nat} {w:World} {ao:Option Addr} {cap:Nat} {l:List Nd} (h:NRow B base w (.slice ao l.length cap) l):NsM B w ao l:=by
 obtain ⟨vs,h1,h2⟩:=h
 by_cases e:l=[]
 ·exact .inl e
 ·have h1' := h1
  rcases h1.2 with ⟨q,h0⟩ | ⟨g,cap', cur,q,hb,hg,_⟩
  ·exact absurd (List.eq_nil_of_length_eq_zero h0) e
  ·cases q
   refine .inr ⟨g,0,rfl,lt_of_at hg,fun i hi=>?_⟩
   obtain ⟨ao,ac,g0,g1,g2,g3,g4,g5,g6⟩:=h2.2 i hi
   have t:∀ j u,vs[j]? = some u→w.cell? ⟨g,j,none⟩=some u:=fun j u hj=>by
    have:=h1'.cells (g:=g) rfl j u hj
    by_cases q:j=0
    ·subst q;simpa [Addr.add] using this
    ·simpa [Addr.add,q] using this
   rw [Nat.zero_add]
   exact ⟨ao,ac,t _ _ g0,t _ _ g1,t _ _ g2,t _ _ g3,t _ _ g4,g5,g6⟩
theorem wpList_nd {w0 W:World} {ops:Array Oper} {rest:List Oper} {o:Oper} {a:Act} {Q:Exit→Act→World→Prop} (hgd:o.guard=none) (s x:Operand)
  (ho:o.op=.call { callee:=.builtin .append,args:=#[s,x],argTypes:=#[23,23] })
  {B:Nat→Prop} (base:Nat) (l:List Nd) (v:Value) (hs:a.eval s=v) (hW:Same0 w0 W) (hr:NRow B base w0 v l) (y:Nd) (ao:Option Addr) (ac:Nat) (q:Nat) (hx:a.eval x=.slice (some ⟨q,0,none⟩) 1 1) (hq:W.heap[q]? = some (.cells #[.int .i64 y.1,.slice ao y.2.1.length ac,.int .i64 y.2.2.1,.bool y.2.2.2.1,.int .i64 y.2.2.2.2] 76 (0,0))) (ha:ArgT w0 ao y.2.1 ac) (hba:∀ b,ao=some b→B b.block) (hb:base≤w0.heap.size) (hsz:(l.length+1) * 56≤140737488355328)
  (h:∀ g cap w', NRow B base w' (.slice (some ⟨g,0,none⟩) (l.length+1) cap) (l ++ [y])→Kept (fun k=>v.ownBlock=some k) w0 w' → (v.ownBlock=some g∨W.heap.size≤g)→wpList Tryz.prog ops Q rest (a.put o.dst (.slice (some ⟨g,0,none⟩) (l.length+1) cap)) w') :
  wpList Tryz.prog ops Q (o :: rest) a W:=by
 obtain ⟨i,hi,hz0,hz1,hz2⟩:=info_parts info_node
 obtain ⟨vs,h1,h2⟩:=hr
 have nb:∀ k,v.ownBlock=some k→NotI w0 k:=fun k e=>(NRow.block ⟨vs,h1,h2⟩ e).2.2
 refine wpList_append_lies _ hgd s x 23 ho base 76 i _ 5 56 Tryz.underlying23 hi hz0 hz1 hz2 rfl (by decide) v l.length vs hs (hW.row h1 (fun _ _ f=>f)) ⟨q,0,none⟩ 1 1 [.int .i64 y.1,.slice ao y.2.1.length ac,.int .i64 y.2.2.1,.bool y.2.2.2.1,.int .i64 y.2.2.2.2] hx rfl (World.news_of_block (cs:=#[.int .i64 y.1,.slice ao y.2.1.length ac,.int .i64 y.2.2.1,.bool y.2.2.2.1,.int .i64 y.2.2.2.2]) (t:=76) (fr:=(0,0)) hq) (by intro u hu;simp at hu;rcases hu with rfl | rfl | rfl | rfl | rfl <;> rfl) (by omega) (by unfold maxLen;omega) (by omega) (Nat.le_trans hb hW.size) W.heap.size rfl ?_
 intro g cap w' hown hgrow hat hlt
 have K:Kept (fun k=>v.ownBlock=some k) w0 w' := Kept.grown (Kept.mono hW (fun _ _ f=>f.elim)) hgrow (fun _ e _=>e)
 refine h g cap w' ⟨_,by rw [List.length_append];exact hown,?_⟩ K (hat.imp id (fun e=>by omega))
 exact (h2.kept K (fun k _ e=>nb k e)).snoc (ha.kept K (fun k e=>nb k e)) hba
theorem box_node' (w:World) (x:Nd) (ao:Option Addr) (ac:Nat) {ww:World} (hk:Same0 (w.alloc (.cells #[.int .i64 x.1,.slice ao x.2.1.length ac,.int .i64 x.2.2.1,.bool x.2.2.2.1,.int .i64 x.2.2.2.2] 76)) ww) :
  ww.cell? ⟨w.heap.size,0,none⟩=some (.int .i64 x.1)∧ww.cell? ⟨w.heap.size,1,none⟩=some (.slice ao x.2.1.length ac)∧ww.cell? ⟨w.heap.size,2,none⟩=some (.int .i64 x.2.2.1)∧ww.cell? ⟨w.heap.size,3,none⟩=some (.bool x.2.2.2.1)∧ww.cell? ⟨w.heap.size,4,none⟩=some (.int .i64 x.2.2.2.2):=
 box5 (hk.at0 (heap_alloc_new w _))
theorem heap_at_node (w:World) (x:Nd) (ao:Option Addr) (ac:Nat):(w.alloc (.cells #[.int .i64 x.1,.slice ao x.2.1.length ac,.int .i64 x.2.2.1,.bool x.2.2.2.1,.int .i64 x.2.2.2.2] 76)).heap[w.heap.size]? = some (.cells #[.int .i64 x.1,.slice ao x.2.1.length ac,.int .i64 x.2.2.1,.bool x.2.2.2.1,.int .i64 x.2.2.2.2] 76 (0,0)):=heap_alloc_new w _
theorem NRow.onto {B:Nat→Prop} {w w0 w' : World} {v:Value} {l:List Nd} (h:Same0 w w0) (hr:NRow B w.heap.size w0 v l) (hk:Kept (fun k=>v.ownBlock=some k) w0 w'):Same0 w w' :=
 h.trans hk (fun i hi e=>by have:=(hr.block e).1;omega)
end Go.Proofs.YtblgblgchkonhaaGreat
namespace Go.Proofs.YtblgblgchkonhaaGreat
set_option maxRecDepth 100000
set_option linter.unusedVariables false
open Go.RowKit Go.Shelf
attribute [local go_sem] Oper.semAt_some
def tgV (x:Tg):Value:=.agg #[.bool x.1,.int .i64 x.2.1,.int .i64 x.2.2.1,.int .i64 x.2.2.2]
def TgB (w:World) (b:Nat) (l:List Tg):Prop:=
 ∃ cs,w.heap[b]? = some (.cells cs 139 (0,0))∧cs.size=l.length * 4∧∀ i (h:i<l.length),cs[i * 4]? = some (.bool l[i].1)∧cs[i * 4+1]? = some (.int .i64 l[i].2.1)∧cs[i * 4+2]? = some (.int .i64 l[i].2.2.1)∧cs[i * 4+3]? = some (.int .i64 l[i].2.2.2)
theorem TgB.kept {S:Nat→Prop} {w w' : World} {b:Nat} {l:List Tg} (h:TgB w b l) (hk:Kept S w w') (hn:¬ S b):TgB w' b l:=by
 obtain ⟨cs,h1,h2,h3⟩:=h
 exact ⟨cs,hk.at h1 hn,h2,h3⟩
theorem TgB.same {w w' : World} {b:Nat} {l:List Tg} (h:TgB w b l) (hk:Same0 w w'):TgB w' b l:=h.kept hk (fun f=>f)
theorem TgB.get {w:World} {b:Nat} {l:List Tg} (h:TgB w b l) {i:Nat} (hi:i<l.length):w.cell? ⟨b,i * 4,none⟩=some (.bool l[i].1)∧w.cell? ⟨b,i * 4+1,none⟩=some (.int .i64 l[i].2.1)∧w.cell? ⟨b,i * 4+2,none⟩=some (.int .i64 l[i].2.2.1)∧w.cell? ⟨b,i * 4+3,none⟩=some (.int .i64 l[i].2.2.2):=by
 obtain ⟨cs,h1,h2,h3⟩:=h
 obtain ⟨q0,q1,q2,q3⟩:=h3 i hi
 exact ⟨(cellAt h1 _).trans q0,(cellAt h1 _).trans q1,(cellAt h1 _).trans q2,(cellAt h1 _).trans q3⟩
def TgLk (l:List Tg) (k:Nat) (vs:Array Value) (W:World):Prop:=∃ h:l.length-1-k<l.length,vs = #[.int .i64 ((l.length-1-k:Nat):Int),tgV l[l.length-1-k]]
theorem back_in (F:Fence) (n:Nat) (hF:F.fn 63) (hro:F.round=none) (ao:Option Addr) (m cap:Nat) (w:World):CallsIn F n Tryz.prog 63 #[.slice ao m cap] w fun e w' => e=.returned (.func (.func 86) #[] #[.pointer (some ⟨w.heap.size,0,none⟩)])∧w' = w.alloc (.cells #[.slice ao m cap] 100):=by
 refine callsIn_of_wp Tryz.func63 rfl hF ?_ hro
 simp only [Tryz.ntmps63,List.size_toArray,List.length_cons,List.length_nil,Nat.reduceAdd,Nat.reduceSub,Array.replicate_succ,Array.replicate_zero,List.push_toArray,List.append_toArray,List.nil_append,List.cons_append]
 gi_wp2
 go_ret
 exact ⟨rfl,rfl⟩
set_option maxHeartbeats 2000000 in
theorem hands_back {n:Nat} {w:World} {b:Nat} {l:List Tg} (p:TgB w b l) {Bn cap:Nat} (hbx:w.heap[Bn]? = some (.cells #[.slice (some ⟨b,0,none⟩) l.length cap] 100 (0,0))) (hl:l.length≤1000000000000000) (hn:1≤n) :
  HandsC Fence.wide n Tryz.prog 86 #[.pointer (some ⟨Bn,0,none⟩)] (fun i=>i=Bn∨i=b) l.length (TgLk l) w:=by
 intro l' J Z W hW hJ hZ hY h0
 have hFn:∀ k,Fence.wide.fn k:=fun _=>trivial
 have b1:=hW.at0 hbx
 have pW:=p.same hW
 have s1:W.cell? ⟨Bn,0,none⟩=some (.slice (some ⟨b,0,none⟩) l.length cap):=cellAt b1 0
 obtain ⟨C,hC⟩:∃ C:Nat→Prop,C=fun i=>i=Bn∨i=b:=⟨_,rfl⟩
 have HC1:Hid (C Bn∧C b):=by rw [hC];exact ⟨.inl rfl,.inr rfl⟩
 have HCC:Hid (CellsOf C W):=fun i hi=>by
  rw [hC] at hi
  rcases hi with e | e
  ·exact ⟨_,_,_,e ▸ b1⟩
  ·obtain ⟨cs,q,_⟩:=pW;exact ⟨cs,_,_,e ▸ q⟩
 have HJ0:Hid (J C 0 W):=h0 C W (Kept.refl _ _) HCC.out (fun i hi=>.inr (by rw [hC] at hi;exact hi))
 clear hC h0 p hbx
 have HROW:Hid (W.heap[Bn]? = some (.cells #[.slice (some ⟨b,0,none⟩) l.length cap] 100 (0,0))∧TgB W b l):=⟨b1,pW⟩
 clear b1 pW
 refine callsIn_of_wp Tryz.func86 rfl trivial ?_ rfl
 simp only [Tryz.ntmps86,List.size_toArray,List.length_cons,List.length_nil,Nat.reduceAdd,Nat.reduceSub,Array.replicate_succ,Array.replicate_zero,List.push_toArray,List.append_toArray,List.nil_append,List.cons_append]
 gi_wp2_with fail
 gi_loopw [3] (fun i wr=>∃ k:Nat,k≤l.length∧i=.int .i64 ((l.length:Int)-1-(k:Int))∧Hid (wr.heap[Bn]? = some (.cells #[.slice (some ⟨b,0,none⟩) l.length cap] 100 (0,0))∧TgB wr b l)∧Hid (CellsOf C wr)∧Hid (J C k wr)) (fun i _=>(intOf i+1).toNat)
 case atStart=>exact ⟨0,Nat.zero_le _,by simp,HROW,HCC,HJ0⟩
 case round=>
  clear HROW HCC HJ0 s1
  obtain ⟨k,hk,rfl,HROW,HCC,HJ⟩:=hrel
  by_cases hlt:k<l.length
  ·obtain ⟨m,hm⟩:∃ m,m+k+1=l.length:=⟨l.length-1-k,by omega⟩
   have em:(l.length:Int)-1-(k:Int)=(m:Int):=by omega
   have em2:l.length-1-k=m:=by omega
   rw [em]
   have hml:m<l.length:=by omega
   have i1:(0:Int)≤(m:Int):=by omega
   have i2:(m:Int)<(l.length:Int):=by omega
   have s1:wr.cell? ⟨Bn,0,none⟩=some (.slice (some ⟨b,0,none⟩) l.length cap):=cellAt HROW.out.1 0
   obtain ⟨c0,c1,c2,c3⟩:=HROW.out.2.get hml
   obtain ⟨fn,tmps,asg,bdy,hy,hR⟩:=hY C k _ wr hlt HCC.out HJ.out ⟨by omega,rfl⟩
   simp only [em2,tgV] at hy
   gi_wp2_with fail
   refine hR.mono ?_
   rintro e w4 (⟨rfl,hj4,hk4⟩ | ⟨rfl,hz4⟩)
   rotate_left
   ·clear hR hy
    gi_wp2_with fail
    go_returns
    exact ⟨⟨_,rfl⟩,.inr hz4⟩
   have HR4:Hid (w4.heap[Bn]? = some (.cells #[.slice (some ⟨b,0,none⟩) l.length cap] 100 (0,0))∧TgB w4 b l):=⟨hk4.at HROW.out.1 (fun q=>q HC1.out.1),HROW.out.2.kept hk4 (fun q=>q HC1.out.2)⟩
   have HC4:Hid (CellsOf C w4):=HCC.out.kept hk4
   have HJ4:Hid (J C (k+1) w4):=hj4
   clear hR hy c0 c1 c2 c3 s1 hj4 hk4 HROW HCC HJ
   gi_wp2_with fail
   go_roundw
   case rel=>exact ⟨k+1,by omega,by go_num,HR4,HC4,HJ4⟩
   case measure=>simp [intOf]
  ·obtain rfl:k=l.length:=by omega
   have e0:(l.length:Int)-1-(l.length:Int) = -1:=by omega
   rw [e0]
   gi_wp2_with fail
   go_end0
   exact ⟨⟨_,rfl⟩,.inl ⟨C,HJ.out⟩⟩
end Go.Proofs.YtblgblgchkonhaaGreat
namespace Go.Proofs.YtblgblgchkonhaaGreat
set_option maxRecDepth 100000
set_option linter.unusedVariables false
open Go.RowKit
attribute [local go_sem ↓] Go.wp_at_zero Go.wp_at_succ
def tgT (L:List Sym) (n:Int):Tg:=(true,n,(arN L n:Int),0)
theorem info_thing:(Tryz.prog.info? 139).map (fun i=>(i.zero,i.size,i.bytes))=some (some (.agg #[.bool false,.int .i64 0,.int .i64 0,.int .i64 0]),4,32):=by kernel_rfl
def put4 (w:World) (g off:Nat) (v0 v1 v2 v3:Value):World:=(((w.setCell ⟨g,off,none⟩ v0).setCell ⟨g,off+1,none⟩ v1).setCell ⟨g,off+2,none⟩ v2).setCell ⟨g,off+3,none⟩ v3
theorem put4_at {w:World} {g off:Nat} {v0 v1 v2 v3:Value} {cs:Array Value} {t:TypeId} {fr:Nat × Nat} (h:w.heap[g]? = some (.cells cs t fr)):(put4 w g off v0 v1 v2 v3).heap[g]? = some (.cells ((((cs.setIfInBounds off v0).setIfInBounds (off+1) v1).setIfInBounds (off+2) v2).setIfInBounds (off+3) v3) t fr):=
 setAt (setAt (setAt (setAt h _ _) _ _) _ _) _ _
theorem put4_kept (w:World) (g off:Nat) (v0 v1 v2 v3:Value):Kept (fun k=>k=g) w (put4 w g off v0 v1 v2 v3):=by
 have t:∀ (w' : World) (o:Nat) (v:Value),Kept (fun k=>k=g) w w' → Kept (fun k=>k=g) w (w'.setCell ⟨g,o,none⟩ v):=fun w' o v h=>Kept.setCell (S:=fun k=>k=g) h (p:=⟨g,o,none⟩) (fun _=>rfl) v
 exact t _ _ _ (t _ _ _ (t _ _ _ (t _ _ _ (Kept.refl _ w))))
theorem boxT4 {w:World} {b:Nat} {v0 v1 v2 v3:Value} {t:TypeId} (h:w.heap[b]? = some (.cells #[v0,v1,v2,v3] t (0,0))):w.cell? ⟨b,0,none⟩=some v0∧w.cell? ⟨b,1,none⟩=some v1∧w.cell? ⟨b,2,none⟩=some v2∧w.cell? ⟨b,3,none⟩=some v3:=⟨cellAt h 0,cellAt h 1,cellAt h 2,cellAt h 3⟩
theorem freeT4 {w:World} {b:Nat} {cs:Array Value} {t:TypeId} (h:w.heap[b]? = some (.cells cs t (0,0))):w.frozen? ⟨b,0,none⟩=false∧w.frozen? ⟨b,1,none⟩=false∧w.frozen? ⟨b,2,none⟩=false∧w.frozen? ⟨b,3,none⟩=false:=⟨frozenAt h 0,frozenAt h 1,frozenAt h 2,frozenAt h 3⟩
def TgQ (w:World) (b n:Nat) (l:List Tg):Prop:=
 ∃ cs,w.heap[b]? = some (.cells cs 139 (0,0))∧cs.size=n * 4∧∀ i (h:i<l.length),cs[i * 4]? = some (.bool l[i].1)∧cs[i * 4+1]? = some (.int .i64 l[i].2.1)∧cs[i * 4+2]? = some (.int .i64 l[i].2.2.1)∧cs[i * 4+3]? = some (.int .i64 l[i].2.2.2)
theorem TgQ.all {w:World} {b:Nat} {l:List Tg} (h:TgQ w b l.length l):TgB w b l:=h
theorem TgQ.kept {S:Nat→Prop} {w w' : World} {b n:Nat} {l:List Tg} (h:TgQ w b n l) (hk:Kept S w w') (hn:¬ S b):TgQ w' b n l:=by
 obtain ⟨cs,h1,h2,h3⟩:=h
 exact ⟨cs,hk.at h1 hn,h2,h3⟩
theorem TgQ.same {w w' : World} {b n:Nat} {l:List Tg} (h:TgQ w b n l) (hk:Same0 w w'):TgQ w' b n l:=h.kept hk (fun f=>f)
theorem TgQ.snoc {w:World} {b n:Nat} {l:List Tg} (h:TgQ w b n l) (hl:l.length<n) (x:Tg):TgQ (put4 w b (l.length * 4) (.bool x.1) (.int .i64 x.2.1) (.int .i64 x.2.2.1) (.int .i64 x.2.2.2)) b n (l ++ [x]):=by
 obtain ⟨cs,h1,h2,h3⟩:=h
 refine ⟨_,put4_at h1,by simp [h2],fun i hi=>?_⟩
 by_cases hi' : i<l.length
 ·obtain ⟨q0,q1,q2,q3⟩:=h3 i hi'
  simp only [List.getElem_append_left hi', Array.getElem?_setIfInBounds]
  refine ⟨?_,?_,?_,?_⟩
  ·rw [if_neg (by omega),if_neg (by omega),if_neg (by omega),if_neg (by omega)];exact q0
  ·rw [if_neg (by omega),if_neg (by omega),if_neg (by omega),if_neg (by omega)];exact q1
  ·rw [if_neg (by omega),if_neg (by omega),if_neg (by omega),if_neg (by omega)];exact q2
  ·rw [if_neg (by omega),if_neg (by omega),if_neg (by omega),if_neg (by omega)];exact q3
 ·obtain rfl:i=l.length:=by simp at hi;omega
  simp only [List.getElem_concat_length,Array.getElem?_setIfInBounds,Array.size_setIfInBounds]
  refine ⟨?_,?_,?_,?_⟩
  ·rw [if_neg (by omega),if_neg (by omega),if_neg (by omega),if_pos trivial,if_pos (by omega)]
  ·rw [if_neg (by omega),if_neg (by omega),if_pos trivial,if_pos (by omega)]
  ·rw [if_neg (by omega),if_pos trivial,if_pos (by omega)]
  ·rw [if_pos trivial,if_pos (by omega)]
theorem TgQ.there {w:World} {b n:Nat} {l:List Tg} (h:TgQ w b n l) (hl:l.length<n):∃ u0 u1 u2 u3,w.cell? ⟨b,l.length * 4,none⟩=some u0∧w.cell? ⟨b,l.length * 4+1,none⟩=some u1∧w.cell? ⟨b,l.length * 4+2,none⟩=some u2∧w.cell? ⟨b,l.length * 4+3,none⟩=some u3∧∀ o,w.frozen? ⟨b,o,none⟩=false:=by
 obtain ⟨cs,h1,h2,_⟩:=h
 have t:∀ o,o<cs.size→w.cell? ⟨b,o,none⟩=some cs[o]! := fun o ho=>by rw [cellAt h1];simp [ho]
 exact ⟨_,_,_,_,t _ (by omega),t _ (by omega),t _ (by omega),t _ (by omega),fun o=>frozenAt h1 o⟩
theorem TgQ.start {w w' : World} {n:Nat} {vs:List Value} (h:w'.ownsRow w.heap.size 139 4 (.slice (some ⟨w.heap.size,0,none⟩) n n) n vs):TgQ w' w.heap.size n []:=by
 rcases h.2 with ⟨e,h0⟩ | ⟨g,cap,cur,e,hb,hg,hle,hml,hsz,ht⟩
 ·cases e
 ·simp only [Value.slice.injEq,Option.some.injEq,Addr.mk.injEq,and_true,true_and] at e
  obtain ⟨rfl,rfl⟩:=e
  exact ⟨cur,hg,hsz,fun i hi=>by simp at hi⟩
set_option maxHeartbeats 2000000 in
theorem newT_yes {n b:Nat} {w:World} {L:List Sym} (h:Sg n w b L) (i:Nat) (hi:i<L.length):Calls Tryz.prog 65 #[.pointer (some ⟨b,0,none⟩),.int .i64 (i:Int)] w fun e w' => e=.returned (.tuple #[tgV (tgT L (i:Int)),.int .i64 0])∧Same0 w w' := by
 have ea:=ar_of h.2 hi
 have HV:Hid (tgV (tgT L (i:Int))=.agg #[.bool true,.int .i64 (i:Int),.int .i64 L[i].ar,.int .i64 0]):=by show _=_;unfold tgV tgT;simp only;rw [ea]
 obtain ⟨⟨sv,mr,hs,hf⟩,har⟩:=h
 obtain ⟨W0,hW0⟩:∃ W0,W0=w.alloc (.cells #[.bool false,.int .i64 0,.int .i64 0,.int .i64 0] 139):=⟨_,rfl⟩
 have k0:Same0 w W0:=by rw [hW0];exact (Kept.refl _ w).alloc _
 have hb:W0.heap[w.heap.size]? = some (.cells #[.bool false,.int .i64 0,.int .i64 0,.int .i64 0] 139 (0,0)):=by rw [hW0];exact heap_alloc_new w _
 have C:=at_yes (hs.kept k0 (fun _ _ f=>f)) i hi
 have HB:Hid (∀ ww,Same0 W0 ww→ww.heap[w.heap.size]? = some (.cells #[.bool false,.int .i64 0,.int .i64 0,.int .i64 0] 139 (0,0))∧Same0 w ww):=fun ww hk=>⟨hk.at0 hb,k0.trans' hk⟩
 clear hs hf har k0 hb ea
 go_enter Tryz.func65,Tryz.ntmps65
 go_upto_region 1 with fail
 rw [← hW0]
 clear hW0
 go_upto_region 2 with (first | (go_at_call 87;refine C.mono ?_;rintro e w1 ⟨rfl,k1⟩))
 obtain ⟨X1,hX1⟩:∃ X1,X1=w1.alloc (.cells #[.string L[i].name,.int .i64 L[i].ar,.bool L[i].df] 67):=⟨_,rfl⟩
 rw [← hX1]
 obtain ⟨q,k2⟩:=HB.out X1 (by rw [hX1];exact (show Same0 W0 w1 from k1).alloc _)
 have y1:X1.cell? ⟨w1.heap.size,1,none⟩=some (.int .i64 L[i].ar):=by rw [hX1];exact cellAt (heap_alloc_new w1 _) 1
 obtain ⟨b0,b1,b2,b3⟩:=boxT4 q
 obtain ⟨g0,g1,g2,g3⟩:=freeT4 q
 clear hX1 C
 go_wp2
 have K4:=put4_kept X1 w.heap.size 0 (.bool true) (.int .i64 (i:Int)) (.int .i64 L[i].ar) (.int .i64 0)
 exact bodyPost_ret (v:=.tuple #[.agg #[.bool true,.int .i64 (i:Int),.int .i64 L[i].ar,.int .i64 0],.int .i64 0]) (by simp [results,Tryz.results65,go_sem,b0,b1,b2,b3]) rfl ⟨by rw [HV.out],k2.trans K4 (fun i hi e=>by omega)⟩
set_option maxHeartbeats 2000000 in
theorem newT_no {n b:Nat} {w:World} {L:List Sym} (h:Sg n w b L) (z:Int) (hz:z<0∨(L.length:Int)≤z):Calls Tryz.prog 65 #[.pointer (some ⟨b,0,none⟩),.int .i64 z] w fun e w' => e=.returned (.tuple #[tgV (true,z,0,0),.int .i64 14])∧Same0 w w' := by
 obtain ⟨⟨sv,mr,hs,hf⟩,har⟩:=h
 obtain ⟨W0,hW0⟩:∃ W0,W0=w.alloc (.cells #[.bool false,.int .i64 0,.int .i64 0,.int .i64 0] 139):=⟨_,rfl⟩
 have k0:Same0 w W0:=by rw [hW0];exact (Kept.refl _ w).alloc _
 have hb:W0.heap[w.heap.size]? = some (.cells #[.bool false,.int .i64 0,.int .i64 0,.int .i64 0] 139 (0,0)):=by rw [hW0];exact heap_alloc_new w _
 have C:=at_no (hs.kept k0 (fun _ _ f=>f)) z hz
 have HB:Hid (∀ ww,Same0 W0 ww→ww.heap[w.heap.size]? = some (.cells #[.bool false,.int .i64 0,.int .i64 0,.int .i64 0] 139 (0,0))∧Same0 w ww):=fun ww hk=>⟨hk.at0 hb,k0.trans' hk⟩
 clear hs hf har k0 hb
 go_enter Tryz.func65,Tryz.ntmps65
 go_upto_region 1 with fail
 rw [← hW0]
 clear hW0
 go_upto_region 2 with (first | (go_at_call 87;refine C.mono ?_;rintro e w1 ⟨rfl,k1⟩))
 obtain ⟨X1,hX1⟩:∃ X1,X1=w1.alloc (.cells #[.string ⟨#[]⟩,.int .i64 0,.bool false] 67):=⟨_,rfl⟩
 rw [← hX1]
 obtain ⟨q,k2⟩:=HB.out X1 (by rw [hX1];exact (show Same0 W0 w1 from k1).alloc _)
 have y1:X1.cell? ⟨w1.heap.size,1,none⟩=some (.int .i64 0):=by rw [hX1];exact cellAt (heap_alloc_new w1 _) 1
 obtain ⟨b0,b1,b2,b3⟩:=boxT4 q
 obtain ⟨g0,g1,g2,g3⟩:=freeT4 q
 clear hX1 C
 go_wp2
 have K4:=put4_kept X1 w.heap.size 0 (.bool true) (.int .i64 z) (.int .i64 0) (.int .i64 0)
 exact bodyPost_ret (v:=.tuple #[.agg #[.bool true,.int .i64 z,.int .i64 0,.int .i64 0],.int .i64 14]) (by simp [results,Tryz.results65,go_sem,b0,b1,b2,b3]) rfl ⟨rfl,k2.trans K4 (fun i hi e=>by omega)⟩
set_option maxHeartbeats 1000000 in
theorem hasRoom_any {B:Nat→Prop} {w:World} {h g room:Nat} {N:List Nd} (p:HpB B w h g room N) (c:Nat):Calls Tryz.prog 32 #[.pointer (some ⟨h,0,none⟩),.int .i64 (c:Int)] w fun e w' => e=.returned (.bool (decide (N.length+c≤room)))∧Same0 w w' := by
 have C1:=room_any p
 have C2:=used_any p
 have hle:=p.le
 have hr2:=p.rm2
 clear p
 by_cases hc:N.length+c≤room
 ·have H:Hid (decide (N.length+c≤room)=true):=by simp [Hid,hc]
  have i1:(c:Int)≤(room:Int)-(N.length:Int):=by omega
  go_enter Tryz.func32,Tryz.ntmps32
  go_wp2_with (first | (go_at_call 62;refine C1.mono ?_;rintro e w' ⟨rfl,rfl⟩) | (go_at_call 38;refine C2.mono ?_;rintro e w' ⟨rfl,rfl⟩))
  go_ret
  exact ⟨by rw [H.out];first | rfl | (simp;done) | (simp;omega),Kept.refl _ _⟩
 ·have H:Hid (decide (N.length+c≤room)=false):=by simp [Hid];omega
  have i1:¬ (c:Int)≤(room:Int)-(N.length:Int):=by omega
  go_enter Tryz.func32,Tryz.ntmps32
  go_wp2_with (first | (go_at_call 62;refine C1.mono ?_;rintro e w' ⟨rfl,rfl⟩) | (go_at_call 38;refine C2.mono ?_;rintro e w' ⟨rfl,rfl⟩))
  go_ret
  exact ⟨by rw [H.out];first | rfl | (simp;done) | (simp;omega),Kept.refl _ _⟩
def whyV (y:Int):Value:=if y=0 then .nilIface else .iface 40 (.int .i64 y)
def FtAt (n0:Nat) (w:World) (e:Value) (c a y:Int):Prop:=∃ b,e=.iface 92 (.pointer (some ⟨b,0,none⟩))∧n0≤b∧w.heap[b]? = some (.cells #[.int .i64 c,.int .i64 a,whyV y] 94 (0,0))
theorem full_any (w:World):Calls Tryz.prog 33 #[] w fun e w' => ∃ v,e=.returned v∧FtAt w.heap.size w' v 131 0 111∧Same0 w w' := by
 go_enter Tryz.func33,Tryz.ntmps33
 go_wp2
 go_ret
 exact ⟨_,rfl,⟨w.heap.size,rfl,Nat.le_refl _,heap_alloc_new w _⟩,(Kept.refl _ w).alloc _⟩
def revO (xs:List Int) (off k:Nat) (cur:Array Value) (o:Nat):Option Value:=
 if off≤o∧o<off+xs.length∧(o<off+k∨off+xs.length≤o+k) then (xs[xs.length-1-(o-off)]?).map (Value.int .i64) else cur[o]?
theorem rev_none (ao:Option Addr) (cap:Nat) (w:World):Calls Tryz.prog 64 #[.slice ao 0 cap] w fun e w' => e=.returned (.tuple #[])∧w' = w:=by
 go_enter Tryz.func64,Tryz.ntmps64
 go_wp2
 go_loopw [2,3] (fun i j wr=>i=.int .i64 0∧j=.int .i64 (-1)∧wr=w) (fun _ _ _=>0)
 case atStart=>exact ⟨rfl,rfl,rfl⟩
 case round=>
  obtain ⟨rfl,rfl,rfl⟩:=hrel
  go_wp2
  first | go_end0 | (refine bodyPost_ret (results_none rfl _ _ _) rfl ?_)
  exact ⟨rfl,rfl⟩
theorem rev_step {xs:List Int} {off k m:Nat} {cur cu:Array Value} (hm:m+k+1=xs.length) (hkm:k<m) (hc:off+xs.length≤cu.size) (hk:k<xs.length) (hmx:m<xs.length) (h:∀ o,cu[o]? = revO xs off k cur o) (o:Nat) :
  ((cu.setIfInBounds (off+k) (.int .i64 xs[m])).setIfInBounds (off+m) (.int .i64 xs[k]))[o]? = revO xs off (k+1) cur o:=by
 rw [Array.getElem?_setIfInBounds,Array.getElem?_setIfInBounds]
 have ho:=h o
 unfold revO at ho ⊢
 by_cases e1:off+m=o
 ·rw [if_pos e1,if_pos (by simp;omega),if_pos (by omega)]
  have:xs.length-1-(o-off)=k:=by omega
  rw [this,List.getElem?_eq_getElem hk];rfl
 ·rw [if_neg e1]
  by_cases e2:off+k=o
  ·rw [if_pos e2,if_pos (by omega),if_pos (by omega)]
   have:xs.length-1-(o-off)=m:=by omega
   rw [this,List.getElem?_eq_getElem hmx];rfl
  ·rw [if_neg e2,ho]
   by_cases q:off≤o∧o<off+xs.length∧(o<off+k∨off+xs.length≤o+k)
   ·rw [if_pos q,if_pos (by omega)]
   ·rw [if_neg q,if_neg (by omega)]
theorem rev_end {xs:List Int} {off k:Nat} {cur:Array Value} (hx:∀ k (h:k<xs.length),cur[off+k]? = some (.int .i64 xs[k])) (hk:xs.length≤k+k+1) (j:Nat) (hj:j<xs.length):revO xs off k cur (off+j)=some (.int .i64 (xs[xs.length-1-j]'(by omega))):=by
 unfold revO
 by_cases q:off≤off+j∧off+j<off+xs.length∧(off+j<off+k∨off+xs.length≤off+j+k)
 ·rw [if_pos q]
  have e:xs.length-1-(off+j-off)=xs.length-1-j:=by omega
  rw [e,List.getElem?_eq_getElem (by omega)];rfl
 ·rw [if_neg q,hx j hj]
  have e:xs.length-1-j=j:=by omega
  simp only [e]
theorem rev_far {xs:List Int} {off k:Nat} {cur:Array Value} {o:Nat} (h:o<off∨off+xs.length≤o):revO xs off k cur o=cur[o]? := by
 unfold revO;rw [if_neg (by omega)]
set_option maxHeartbeats 2000000 in
theorem rev_any {w:World} {b off:Nat} {cur:Array Value} {xs:List Int} (hb:w.heap[b]? = some (.cells cur 3 (0,0))) (hc:off+xs.length≤cur.size) (hx:∀ k (h:k<xs.length),cur[off+k]? = some (.int .i64 xs[k])) (hm:xs.length≤6) (cap:Nat) :
  Calls Tryz.prog 64 #[.slice (some ⟨b,off,none⟩) xs.length cap] w fun e w' => e=.returned (.tuple #[])∧(∃ cu,w'.heap[b]? = some (.cells cu 3 (0,0))∧cu.size=cur.size∧(∀ j (h:j<xs.length),cu[off+j]? = some (.int .i64 (xs[xs.length-1-j]'(by omega))))∧∀ o,(o<off∨off+xs.length≤o)→cu[o]? = cur[o]?)∧Kept (fun k=>k=b) w w' := by
 have HX:Hid (∀ k (h:k<xs.length),cur[off+k]? = some (.int .i64 xs[k])):=hx
 go_enter Tryz.func64,Tryz.ntmps64
 go_wp2
 go_loopw [2,3] (fun i j wr=>∃ k:Nat,k≤xs.length∧i=.int .i64 (k:Int)∧j=.int .i64 ((xs.length:Int)-1-(k:Int))∧Hid (k+k≤xs.length+1)∧Hid (∃ cu,wr.heap[b]? = some (.cells cu 3 (0,0))∧cu.size=cur.size∧∀ o,cu[o]? = revO xs off k cur o)∧Kept (fun q=>q=b) w wr) (fun i _ _=>xs.length-(intOf i).toNat)
 case atStart=>exact ⟨0,Nat.zero_le _,rfl,by simp,by simp [Hid],⟨cur,hb,rfl,fun o=>by unfold revO;rw [if_neg (by omega)]⟩,Kept.refl _ _⟩
 case round=>
  obtain ⟨k,hk,rfl,rfl,h2,⟨cu,c1,c2,c3⟩,hs⟩:=hrel
  by_cases hlt:k+k+1<xs.length
  ·obtain ⟨m,hm'⟩:∃ m,m+k+1=xs.length:=⟨xs.length-1-k,by omega⟩
   have em:(xs.length:Int)-1-(k:Int)=(m:Int):=by omega
   rw [em]
   have hkx:k<xs.length:=by omega
   have hmx:m<xs.length:=by omega
   have hkm:k<m:=by omega
   have i1:(0:Int)≤(k:Int):=by omega
   have i2:(k:Int)<(xs.length:Int):=by omega
   have i3:(0:Int)≤(m:Int):=by omega
   have i4:(m:Int)<(xs.length:Int):=by omega
   have i5:(k:Int)<(m:Int):=by omega
   have d1:wr.cell? ⟨b,off+k,none⟩=some (.int .i64 xs[k]):=by
    rw [cellAt c1,c3];unfold revO;rw [if_neg (by omega)];exact HX.out k hkx
   have d2:wr.cell? ⟨b,off+m,none⟩=some (.int .i64 xs[m]):=by
    rw [cellAt c1,c3];unfold revO;rw [if_neg (by omega)];exact HX.out m hmx
   have f1:=frozenAt c1 (off+k)
   have f2:=frozenAt c1 (off+m)
   have FIN:Hid (∀ wd:World,Same0 ((wr.setCell ⟨b,off+k,none⟩ (.int .i64 xs[m])).setCell ⟨b,off+m,none⟩ (.int .i64 xs[k])) wd→(∃ cu,wd.heap[b]? = some (.cells cu 3 (0,0))∧cu.size=cur.size∧∀ o,cu[o]? = revO xs off (k+1) cur o)∧Kept (fun q=>q=b) w wd):=fun wd hk=>by
    refine ⟨⟨_,hk.at0 (setAt (setAt c1 _ _) _ _),by simp [c2],fun o=>rev_step hm' hkm (by omega) hkx hmx c3 o⟩,?_⟩
    exact (Kept.setCell (S:=fun q=>q=b) (Kept.setCell (S:=fun q=>q=b) hs (p:=⟨b,off+k,none⟩) (fun _=>rfl) _) (p:=⟨b,off+m,none⟩) (fun _=>rfl) _).trans hk (fun _ _ f=>f.elim)
   clear c1 c2 c3 hb hx HX hc
   go_wp2
   go_region
   all_goals (go_wp2;first | (refine ⟨⟨k+1,by omega,by go_num,by go_num,show k+1+(k+1)≤xs.length+1 by omega,(FIN.out _ (by first | exact Kept.refl _ _ | exact (Kept.refl _ _).drew | exact (Kept.refl _ _).drewN _)).1,(FIN.out _ (by first | exact Kept.refl _ _ | exact (Kept.refl _ _).drew | exact (Kept.refl _ _).drewN _)).2⟩,by simp [intOf];omega⟩))
  ·have hle:xs.length≤k+k+1:=by omega
   have i5:¬ ((k:Int)<(xs.length:Int)-1-(k:Int)):=by omega
   have FIN:Hid ((∃ cu,wr.heap[b]? = some (.cells cu 3 (0,0))∧cu.size=cur.size∧(∀ j (h:j<xs.length),cu[off+j]? = some (.int .i64 (xs[xs.length-1-j]'(by omega))))∧∀ o,(o<off∨off+xs.length≤o)→cu[o]? = cur[o]?)∧Kept (fun k=>k=b) w wr):=⟨⟨cu,c1,c2,fun j hj=>by rw [c3];exact rev_end HX.out hle j hj,fun o ho=>by rw [c3];exact rev_far ho⟩,hs⟩
   clear c1 c2 c3 hb hx HX hc
   go_wp2
   first | go_end0 | (refine bodyPost_ret (results_none rfl _ _ _) rfl ?_)
   exact ⟨rfl,FIN.out⟩
end Go.Proofs.YtblgblgchkonhaaGreat
