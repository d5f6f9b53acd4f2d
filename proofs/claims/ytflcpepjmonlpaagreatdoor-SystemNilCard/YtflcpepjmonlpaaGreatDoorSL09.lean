import Derived.Test.YtflcpepjmonlpaaGreatDoorSL08
import Derived.Test.YtflcpepjmonlpaaGreatDoorSL01
import Derived.Deep.QuietTactic
import Derived.BigQuiet
import Derived.Test.YtflcpepjmonlpaaGreatDoorSL03
namespace Go.Proofs.YtflcpepjmonlpaaGreatDoor
set_option maxRecDepth 100000
set_option linter.unusedVariables false
open Go.RowKit
attribute [local go_sem ↓] Go.wp_at_zero Go.wp_at_succ
theorem Src.cutl {w:World} {b off m c:Nat} {us:List Value} (h:Src w (some ⟨b,off,none⟩) m c us) (k:Nat) (hk:k≤m):Src w (some ⟨b,off,none⟩) k c (us.take k):=by
 refine ⟨by have:=h.len;simp;omega,fun u hu=>h.one u (List.mem_of_mem_take hu),fun ad e j u hj=>?_,fun e=>by cases e⟩
 refine h.at' ad e j u ?_
 rw [List.getElem?_take] at hj
 split at hj
 ·exact hj
 ·cases hj
theorem Src.cutr {w:World} {b off m c d:Nat} {us:List Value} (h:Src w (some ⟨b,off,none⟩) m c us) (k:Nat) (hk:k≤m):Src w (some ⟨b,off+k,none⟩) (m-k) d (us.drop k):=by
 refine ⟨by have:=h.len;simp;omega,fun u hu=>h.one u (List.mem_of_mem_drop hu),fun ad e j u hj=>?_,fun e=>by cases e⟩
 cases e
 rw [List.getElem?_drop] at hj
 have:=h.at' _ rfl _ u hj
 rw [addr_add] at this ⊢
 rw [← this];congr 2;omega
theorem Src.void {w:World} {ao:Option Addr} {m c:Nat} {us:List Value} (h0:m=0) (hn:ao≠none) (hu:us=[]):Src w ao m c us:=by
 subst h0 hu
 exact Src.nil w ao c (fun e=>absurd e hn)
set_option maxHeartbeats 4000000 in
theorem replaced_nums {w:World} {b off m c:Nat} {us:List Value} {bo:Option Addr} {k d:Nat} {vs:List Value} (h:Src w (some ⟨b,off,none⟩) m c us) (hb:b<w.heap.size) (hmc:m≤c) (h2:Src w bo k d vs) {p:Nat} (hp:p<m) (hl:m+k≤10000) :
  Calls Tryz.prog 234 #[.slice (some ⟨b,off,none⟩) m c,.int .i64 (p:Int),.slice bo k d] w fun e w' => ∃ v,e=.returned v∧w'.ownsRow w.heap.size 3 1 v (m-1+k) (us.take p++vs++us.drop (p+1))∧Same0 w w' := by
 have ew:IntKind.i64.wrap ((p:Int)+1)=(p:Int)+1:=iwrap (by omega) (by omega)
 have i1:(0:Int)≤(p:Int):=by omega
 have i2:(p:Int)≤(c:Int):=by omega
 have i3:(p:Int)+1≤(m:Int):=by omega
 have i4:(0:Int)≤(p:Int)+1:=by omega
 have hlen:∀ n,p+k+n=p+k+n:=fun _=>rfl
 have CAT:Hid (∀ (ww:World) (a2:Option Addr) (m2 c2:Nat),Same0 w ww→Src w a2 m2 c2 (us.drop (p+1))→m2=m-(p+1)→Calls Tryz.prog 196 #[.slice (some ⟨ww.heap.size,0,none⟩) 3 3] (ww.alloc (.cells #[.slice (some ⟨b,off,none⟩) p c,.slice bo k d,.slice a2 m2 c2] 51)) fun e w' => ∃ v,e=.returned v∧Hid (w'.ownsRow w.heap.size 3 1 v (m-1+k) (us.take p++vs++us.drop (p+1)))∧Same0 w w'):=by
  intro ww a2 m2 c2 hk hs hm2
  have ka:Same0 ww (ww.alloc (.cells #[.slice (some ⟨b,off,none⟩) p c,.slice bo k d,.slice a2 m2 c2] 51)):=(Kept.refl _ _).alloc _
  have kk:=hk.trans' ka
  refine (concat3_nums (heap_alloc_new ww _) ((h.cutl p (by omega)).same kk) (h2.same kk) (hs.same kk) (by omega)).mono ?_
  rintro e w' ⟨v,rfl,hr,h3⟩
  refine ⟨v,rfl,?_,kk.trans' h3⟩
  have e1:p+k+m2=m-1+k:=by omega
  rw [e1] at hr
  exact row_mono hr (by rw [World.size_alloc];have:=hk.size;omega)
 by_cases hc1:c=p+1
 ·have hm1:m=p+1:=by omega
  have S2:Src w (some ⟨b,off,none⟩) 0 0 (us.drop (p+1)):=Src.void rfl (by simp) (by have:=h.len;exact List.drop_eq_nil_of_le (by omega))
  have CAT2:Hid (∀ ww,Same0 w ww→Calls Tryz.prog 196 #[.slice (some ⟨ww.heap.size,0,none⟩) 3 3] (ww.alloc (.cells #[.slice (some ⟨b,off,none⟩) p c,.slice bo k d,.slice (some ⟨b,off,none⟩) 0 0] 51)) fun e w' => ∃ v,e=.returned v∧Hid (w'.ownsRow w.heap.size 3 1 v (m-1+k) (us.take p++vs++us.drop (p+1)))∧Same0 w w'):=fun ww hk=>CAT.out ww _ 0 0 hk S2 (by omega)
  have W1:Same0 w w.drew:=Kept.drew (Kept.refl _ _)
  clear CAT S2 h h2
  subst hc1 hm1
  go_enter Tryz.func234,Tryz.ntmps234
  go_wp2
  go_region_with (first | (go_at_call 196;refine (CAT2.out _ W1).mono ?_;rintro e w5 ⟨v,rfl,hr,hk⟩))
  all_goals
   go_wp2
   go_ret
   exact ⟨_,rfl,hr.out,hk⟩
 ·have CAT2:Hid (∀ ww,Same0 w ww→Calls Tryz.prog 196 #[.slice (some ⟨ww.heap.size,0,none⟩) 3 3] (ww.alloc (.cells #[.slice (some ⟨b,off,none⟩) p c,.slice bo k d,.slice (some ⟨b,off+(p+1),none⟩) (m-(p+1)) (c-(p+1))] 51)) fun e w' => ∃ v,e=.returned v∧Hid (w'.ownsRow w.heap.size 3 1 v (m-1+k) (us.take p++vs++us.drop (p+1)))∧Same0 w w'):=fun ww hk=>CAT.out ww _ (m-(p+1)) (c-(p+1)) hk (h.cutr (p+1) (by omega)) rfl
  have W1:Same0 w w.drew:=Kept.drew (Kept.refl _ _)
  clear CAT h h2
  go_enter Tryz.func234,Tryz.ntmps234
  go_wp2
  go_region_with (first | (go_at_call 196;refine (CAT2.out _ W1).mono ?_;rintro e w5 ⟨v,rfl,hr,hk⟩))
  all_goals
   go_wp2
   go_ret
   exact ⟨_,rfl,hr.out,hk⟩
set_option maxHeartbeats 4000000 in
theorem replaced_paths {w:World} {b off m c:Nat} {us:List Value} {bo:Option Addr} {k d:Nat} {vs:List Value} (h:Src w (some ⟨b,off,none⟩) m c us) (hb:b<w.heap.size) (hmc:m≤c) (h2:Src w bo k d vs) {p:Nat} (hp:p<m) (hl:m+k≤10000) :
  Calls Tryz.prog 232 #[.slice (some ⟨b,off,none⟩) m c,.int .i64 (p:Int),.slice bo k d] w fun e w' => ∃ v,e=.returned v∧w'.ownsRow w.heap.size 51 1 v (m-1+k) (us.take p++vs++us.drop (p+1))∧Same0 w w' := by
 have ew:IntKind.i64.wrap ((p:Int)+1)=(p:Int)+1:=iwrap (by omega) (by omega)
 have i1:(0:Int)≤(p:Int):=by omega
 have i2:(p:Int)≤(c:Int):=by omega
 have i3:(p:Int)+1≤(m:Int):=by omega
 have i4:(0:Int)≤(p:Int)+1:=by omega
 have hlen:∀ n,p+k+n=p+k+n:=fun _=>rfl
 have CAT:Hid (∀ (ww:World) (a2:Option Addr) (m2 c2:Nat),Same0 w ww→Src w a2 m2 c2 (us.drop (p+1))→m2=m-(p+1)→Calls Tryz.prog 269 #[.slice (some ⟨ww.heap.size,0,none⟩) 3 3] (ww.alloc (.cells #[.slice (some ⟨b,off,none⟩) p c,.slice bo k d,.slice a2 m2 c2] 50)) fun e w' => ∃ v,e=.returned v∧Hid (w'.ownsRow w.heap.size 51 1 v (m-1+k) (us.take p++vs++us.drop (p+1)))∧Same0 w w'):=by
  intro ww a2 m2 c2 hk hs hm2
  have ka:Same0 ww (ww.alloc (.cells #[.slice (some ⟨b,off,none⟩) p c,.slice bo k d,.slice a2 m2 c2] 50)):=(Kept.refl _ _).alloc _
  have kk:=hk.trans' ka
  refine (concat3_paths (heap_alloc_new ww _) ((h.cutl p (by omega)).same kk) (h2.same kk) (hs.same kk) (by omega)).mono ?_
  rintro e w' ⟨v,rfl,hr,h3⟩
  refine ⟨v,rfl,?_,kk.trans' h3⟩
  have e1:p+k+m2=m-1+k:=by omega
  rw [e1] at hr
  exact row_mono hr (by rw [World.size_alloc];have:=hk.size;omega)
 by_cases hc1:c=p+1
 ·have hm1:m=p+1:=by omega
  have S2:Src w (some ⟨b,off,none⟩) 0 0 (us.drop (p+1)):=Src.void rfl (by simp) (by have:=h.len;exact List.drop_eq_nil_of_le (by omega))
  have CAT2:Hid (∀ ww,Same0 w ww→Calls Tryz.prog 269 #[.slice (some ⟨ww.heap.size,0,none⟩) 3 3] (ww.alloc (.cells #[.slice (some ⟨b,off,none⟩) p c,.slice bo k d,.slice (some ⟨b,off,none⟩) 0 0] 50)) fun e w' => ∃ v,e=.returned v∧Hid (w'.ownsRow w.heap.size 51 1 v (m-1+k) (us.take p++vs++us.drop (p+1)))∧Same0 w w'):=fun ww hk=>CAT.out ww _ 0 0 hk S2 (by omega)
  have W1:Same0 w w.drew:=Kept.drew (Kept.refl _ _)
  clear CAT S2 h h2
  subst hc1 hm1
  go_enter Tryz.func232,Tryz.ntmps232
  go_wp2
  go_region_with (first | (go_at_call 269;refine (CAT2.out _ W1).mono ?_;rintro e w5 ⟨v,rfl,hr,hk⟩))
  all_goals
   go_wp2
   go_ret
   exact ⟨_,rfl,hr.out,hk⟩
 ·have CAT2:Hid (∀ ww,Same0 w ww→Calls Tryz.prog 269 #[.slice (some ⟨ww.heap.size,0,none⟩) 3 3] (ww.alloc (.cells #[.slice (some ⟨b,off,none⟩) p c,.slice bo k d,.slice (some ⟨b,off+(p+1),none⟩) (m-(p+1)) (c-(p+1))] 50)) fun e w' => ∃ v,e=.returned v∧Hid (w'.ownsRow w.heap.size 51 1 v (m-1+k) (us.take p++vs++us.drop (p+1)))∧Same0 w w'):=fun ww hk=>CAT.out ww _ (m-(p+1)) (c-(p+1)) hk (h.cutr (p+1) (by omega)) rfl
  have W1:Same0 w w.drew:=Kept.drew (Kept.refl _ _)
  clear CAT h h2
  go_enter Tryz.func232,Tryz.ntmps232
  go_wp2
  go_region_with (first | (go_at_call 269;refine (CAT2.out _ W1).mono ?_;rintro e w5 ⟨v,rfl,hr,hk⟩))
  all_goals
   go_wp2
   go_ret
   exact ⟨_,rfl,hr.out,hk⟩
def LaidQ (base g A k:Nat) (P:List (List Int)) (w wr:World):Prop:=∃ ys:List Value,wr.ownsRow base 51 1 (.slice (some ⟨g,0,none⟩) A A) A ys∧PCells wr (ys.take k) P∧Same0 w wr
theorem LaidQ.cell {base g A k:Nat} {P:List (List Int)} {w wr:World} (h:LaidQ base g A k P w wr) (hk:k<A):∃ old,wr.cell? ⟨g,k,none⟩=some old∧wr.frozen? ⟨g,k,none⟩=false:=by
 obtain ⟨ys,h1,_⟩:=h
 exact row_put h1 hk
theorem LaidQ.same {base g A k:Nat} {P:List (List Int)} {w wr w1:World} (h:LaidQ base g A k P w wr) (hk:Same0 wr w1):LaidQ base g A k P w w1:=by
 obtain ⟨ys,h1,h2,h4⟩:=h
 exact ⟨ys,hk.row h1 (fun _ _ f=>f),h2.same hk,h4.trans' hk⟩
theorem LaidQ.next {base g A k:Nat} {P:List (List Int)} {w wr:World} (h:LaidQ base g A k P w wr) (hk:k<A) (hg:w.heap.size≤g) {ao:Option Addr} {ac:Nat} {p:List Int} (hp:ArgT wr ao p ac):LaidQ base g A (k+1) (P ++ [p]) w (wr.setCell ⟨g,k,none⟩ (.slice ao p.length ac)):=by
 obtain ⟨ys,h1,h2,h4⟩:=h
 have hl:ys.length=A:=by have:=h1.1;omega
 have hgT:∃ cur,wr.heap[g]? = some (.cells cur 51 (0,0)):=own_blk h1 rfl
 have ks:Kept (fun q=>q=g) wr (wr.setCell ⟨g,k,none⟩ (.slice ao p.length ac)):=Kept.setCell (p:=⟨g,k,none⟩) (Kept.refl (fun q=>q=g) wr) (fun _=>rfl) _
 have nT:∀ q,q=g→∀ cur,wr.heap[q]? ≠ some (.cells cur 3 (0,0)):=fun q e cur hc=>by
  subst e
  obtain ⟨c2,h⟩:=hgT
  rw [h] at hc;cases hc
 refine ⟨ys.set k (.slice ao p.length ac),(h1.stored k _).1,?_,h4.own hg _⟩
 rw [take_set (by omega)]
 refine PCells.append (h2.kept ks nT) ⟨rfl,fun i hi=>?_⟩
 obtain rfl:i=0:=by simp at hi;omega
 exact ⟨ao,ac,rfl,hp.kept ks nT⟩
theorem LaidQ.src {base g A:Nat} {P:List (List Int)} {w wr:World} (h:LaidQ base g A A P w wr):∃ us,PCells wr us P∧Src wr (some ⟨g,0,none⟩) A A us:=by
 obtain ⟨ys,h1,h2,h4⟩:=h
 have hl:ys.length=A:=by have:=h1.1;omega
 rw [List.take_of_length_le (by omega)] at h2
 exact ⟨ys,h2,hl,h2.one,fun ad e j u hj=>by cases e;exact h1.cells rfl j u hj,fun e=>by cases e⟩
theorem PsAt.src {w:World} {po:Option Addr} {P:List (List Int)} {pc:Nat} (h:PsAt w po P) (hn:po=none→pc=0):∃ us,PCells w us P∧Src w po P.length pc us:=by
 obtain ⟨us,h1,h2⟩:=h.cells
 refine ⟨us,h1,h1.1,h1.one,h2,fun e=>⟨hn e,?_⟩⟩
 rcases h with rfl | ⟨b,off,e', _⟩
 ·exact List.eq_nil_of_length_eq_zero h1.1
 ·rw [e] at e'; cases e'
theorem Arg.src {w:World} {ao:Option Addr} {xs:List Int} {ac:Nat} (h:Arg w ao xs ac):Src w ao xs.length ac (iv xs):=by
 refine ⟨iv_length xs,iv_oneCell xs,fun ad e j u hj=>?_,fun e=>⟨(h.nil e).2,?_⟩⟩
 ·have h0:0<(iv xs).length:=by have:=(List.getElem?_eq_some_iff.1 hj).1;omega
  obtain ⟨ad', e', hc⟩:=h.at'.src h0
  rw [e] at e'
  cases e'
  exact hc j u hj
 ·have:=(h.nil e).1
  rw [List.eq_nil_of_length_eq_zero this];rfl
theorem ofN_iv_take (l:List Nat) (n:Nat):(iv (ofN l)).take n=iv (ofN (l.take n)):=by simp [iv,ofN,List.map_take]
theorem ofN_iv_drop (l:List Nat) (n:Nat):(iv (ofN l)).drop n=iv (ofN (l.drop n)):=by simp [iv,ofN,List.map_drop]
structure KidIn (w:World) (L:List Sym) (bs:Nat) (po:Option Addr) (pc:Nat) (P:List (List Int)) (c s:Nat) (ho:Option Addr) (H:List Rw):Prop where
 sig:Sg w.heap.size w bs L
 ps:PsAt w po P
 nul:po=none→pc=0
 cap:P.length≤pc
 c' : c<P.length
 s' : s<L.length
 hs:RwAt w ho H
 le:H.length≤100
 few:P.length≤4000
 len:∀ p∈P,p.length≤4000
 ok:∀ x∈H,checkE L x.2.1=0∧x.2.2.length=P.length∧(∀ p∈x.2.2,p<x.2.1.length)∧numR x c=(s:Int)
theorem KidIn.same {w w' : World} {L:List Sym} {bs:Nat} {po:Option Addr} {pc:Nat} {P:List (List Int)} {c s:Nat} {ho:Option Addr} {H:List Rw} (h:KidIn w L bs po pc P c s ho H) (hk:Same0 w w'):KidIn w' L bs po pc P c s ho H:=
 ⟨sg_up (h.sig.same hk) hk.size,h.ps.same hk,h.nul,h.cap,h.c', h.s', h.hs.same hk,h.le,h.few,h.len,h.ok⟩
def KidOut (w:World) (L:List Sym) (bs:Nat) (P:List (List Int)) (c s:Nat) (H:List Rw) (e:Ending) (w' : World):Prop:=
 ∃ po pc ro rc,e=.returned (.agg #[.pointer (some ⟨bs,0,none⟩),.slice po (kidP L P c s).length pc,.slice ro H.length rc])∧PsAt w' po (kidP L P c s)∧(po=none→pc=0)∧(kidP L P c s).length≤pc∧RwAt w' ro (H.map (kidX L c))∧(ro=none→rc=0)∧Same0 w w'
def belowP (L:List Sym) (P:List (List Int)) (c k:Nat):List (List Int):=(List.range k).map (fun (i:Nat)=>P.getD c [] ++ [(i:Int)])
theorem belowP_succ (L:List Sym) (P:List (List Int)) (c k:Nat):belowP L P c (k+1)=belowP L P c k ++ [P.getD c [] ++ [(k:Int)]]:=by simp [belowP,List.range_succ]
theorem kid_paths {w:World} {L:List Sym} {bs:Nat} {po:Option Addr} {pc:Nat} {P:List (List Int)} {c s:Nat} {ho:Option Addr} {H:List Rw} (h:KidIn w L bs po pc P c s ho H) {base g A:Nat} {w0:World} (hA:A=arN L (s:Int)) (hA6:A≤6) (hl:LaidQ base g A A (belowP L P c A) w0 w) :
  Calls Tryz.prog 232 #[.slice po P.length pc,.int .i64 (c:Int),.slice (some ⟨g,0,none⟩) A A] w fun e w' => ∃ vo vc,e=.returned (.slice vo (kidP L P c s).length vc)∧PsAt w' vo (kidP L P c s)∧(vo=none→vc=0)∧(kidP L P c s).length≤vc∧Same0 w w' := by
 obtain ⟨us,u1,u2⟩:=h.ps.src h.nul
 obtain ⟨vs,v1,v2⟩:=hl.src
 obtain ⟨b,off,ao,ac,rfl,hb,_⟩:=h.ps.get h.c'
 refine (replaced_paths u2 hb h.cap v2 h.c' (by have:=h.few;omega)).mono ?_
 rintro e w' ⟨v,rfl,hr,hk⟩
 have hc:PCells w' (us.take c++vs++us.drop (c+1)) (kidP L P c s):=by
  unfold kidP repl
  rw [← hA]
  exact (((u1.take c).append v1).append (u1.drop (c+1))).same hk
 obtain ⟨vo,vc,e1,e2,e3,e4⟩:=row_paths hr hc
 exact ⟨vo,vc,by rw [e1],e2,e3,e4,hk⟩
end Go.Proofs.YtflcpepjmonlpaaGreatDoor
namespace Go.Proofs.YtflcpepjmonlpaaGreatDoor
open Go.RowKit
set_option linter.unusedVariables false
set_option maxRecDepth 100000
theorem sm_fault (W:World) (v:Value):(Instr.typeAssert (.iface 141 v) 46 141 true).run Tryz.prog W=.ok (.tuple #[v,.bool true]) W:=by kernel_rfl
theorem sm_errno (W:World) (v:Value):(Instr.typeAssert (.iface 70 v) 46 70 true).run Tryz.prog W=.ok (.tuple #[v,.bool true]) W:=by kernel_rfl
theorem sm_nil (W:World):(binOp .eql 46 .nilIface .nilIface).run Tryz.prog W=.ok (.bool true) W:=by kernel_rfl
def WrsAt (w:World) (lv:Value) (ws:List (Int × Int)):Prop:=
 ∃ lo lc,lv=.slice lo ws.length lc∧(ws=[]∨∃ b,lo=some ⟨b,0,none⟩∧b<w.heap.size∧∀ i (h:i<ws.length),w.cell? ⟨b,i * 2,none⟩=some (.int .i64 ws[i].1)∧w.cell? ⟨b,i * 2+1,none⟩=some (.int .i64 ws[i].2))
theorem WrsAt.same {w w' : World} {lv:Value} {ws:List (Int × Int)} (h:WrsAt w lv ws) (hk:Same0 w w'):WrsAt w' lv ws:=by
 obtain ⟨lo,lc,e,h⟩:=h
 refine ⟨lo,lc,e,h.imp id ?_⟩
 rintro ⟨b,e,hb,hc⟩
 exact ⟨b,e,Nat.lt_of_lt_of_le hb hk.size,fun i hi=>⟨(hk.cell (p:=⟨b,i * 2,none⟩) hb (fun f=>f)).trans (hc i hi).1,(hk.cell (p:=⟨b,i * 2+1,none⟩) hb (fun f=>f)).trans (hc i hi).2⟩⟩
set_option maxHeartbeats 8000000 in
theorem same_fltN {w:World} {er lv:Value} {ws:List (Int × Int)} (h:FltAt w ws er) (hl:WrsAt w lv ws) (hn:ws.length≤1000) :
  Calls Tryz.prog 38 #[er,lv] w fun e w' => e=.returned (.bool true)∧Same0 w w' := by
 obtain ⟨lo,lc,rfl,hl⟩:=hl
 go_enter Tryz.func38,Tryz.ntmps38
 go_wp2
 go_loopw [0,5] (fun er i wr=>∃ m k:Nat,k≤ws.length∧wr=w.drewN m∧i=.int .i64 (k:Int)∧Hid (FltAt w (ws.drop k) er)) (fun _ i _=>ws.length-(intOf i).toNat)
 case atStart=>exact ⟨0,0,Nat.zero_le _,rfl,rfl,h⟩
 case round=>
  clear h
  obtain ⟨m,k,hk,rfl,rfl,hf⟩:=hrel
  by_cases hlt:k<ws.length
  ·obtain ⟨b,rfl,_,hc⟩:∃ b,lo=some ⟨b,0,none⟩∧b<w.heap.size∧∀ i (h:i<ws.length),w.cell? ⟨b,i * 2,none⟩=some (.int .i64 ws[i].1)∧w.cell? ⟨b,i * 2+1,none⟩=some (.int .i64 ws[i].2):=by
    rcases hl with e | e
    ·rw [e] at hlt;simp at hlt
    ·exact e
   obtain ⟨g0,g1⟩:=hc k hlt
   have i1:(0:Int)≤(k:Int):=by omega
   have i2:(k:Int)<(ws.length:Int):=by omega
   have hf' := hf.out
   rw [List.drop_eq_getElem_cons hlt] at hf'
   obtain ⟨c,p,hcp⟩:∃ c p,ws[k]=(c,p):=⟨_,_,rfl⟩
   rw [hcp] at hf' g0 g1
   simp only at g0 g1
   rcases hf' with ⟨rfl,hnil,rfl⟩ | ⟨hp,d,u,rfl,hd,hu⟩
   ·have hlast:(k:Int)=(ws.length:Int)-1:=by
     have:=congrArg List.length hnil
     simp at this
     omega
    have hlast' : ((k:Int) == (ws.length:Int)-1)=true:=by simpa using hlast
    have hta:=fun v=>sm_errno (w.drewN m) v
    clear hc hf hnil hlast hl hcp
    go_wp2
    go_ret
    exact ⟨by first | rfl | simp,(Kept.refl _ w).drewN m⟩
   ·have b0:w.cell? ⟨d,0,none⟩=some (.int .i64 c):=cellAt hd 0
    have b1:w.cell? ⟨d,1,none⟩=some (.int .i64 p):=cellAt hd 1
    have b2:w.cell? ⟨d,2,none⟩=some u:=cellAt hd 2
    have hp1:(p == -1)=false:=by simpa using hp
    have hta:=fun v=>sm_fault (w.drewN m) v
    have HU:Hid (FltAt w (ws.drop (k+1)) u):=hu
    clear hc hf hd hu hp hl hcp
    go_wp2
    clear hta hp1
    go_quiet (fail)
    go_wp2
    exact ⟨⟨m+nq,k+1,by omega,rfl,by go_num,HU⟩,by simp [intOf];omega⟩
  ·have hf' := hf.out
   rw [List.drop_of_length_le (by omega)] at hf'
   obtain rfl:_=Value.nilIface:=hf'
   have hnn:=sm_nil (w.drewN m)
   go_wp2
   go_ret
   exact ⟨rfl,(Kept.refl _ w).drewN m⟩
end Go.Proofs.YtflcpepjmonlpaaGreatDoor
namespace Go.Proofs.YtflcpepjmonlpaaGreatDoor
set_option maxRecDepth 100000
set_option linter.unusedVariables false
open Go.RowKit
attribute [local go_sem ↓] Go.wp_at_zero Go.wp_at_succ
theorem snew_any {w:World} {bs:Nat} {L:List Sym} (h:Sg w.heap.size w bs L):Calls Tryz.prog 118 #[.pointer (some ⟨bs,0,none⟩)] w fun e w' => e=.returned (.pointer (some ⟨w.heap.size,0,none⟩))∧StAt w' w.heap.size bs L [] (.slice none 0 0) []∧Same0 w w' := by
 have K:Same0 w (w.alloc (.cells #[.pointer (some ⟨bs,0,none⟩),.slice none 0 0] 140)):=(Kept.refl _ w).alloc _
 have H:Hid (StAt (w.alloc (.cells #[.pointer (some ⟨bs,0,none⟩),.slice none 0 0] 140)) w.heap.size bs L [] (.slice none 0 0) []):=⟨heap_alloc_new _ _,sg_up (h.same K) K.size,World.ownsRow_nil _ _ _ _,⟨rfl,fun i hi=>absurd hi (by simp)⟩,by simp,fun x hx=>by simp at hx⟩
 clear h
 go_enter Tryz.func118,Tryz.ntmps118
 go_wp2
 go_ret
 exact ⟨rfl,H.out,K⟩
abbrev fS:Sym:=⟨⟨#[102]⟩,1,true⟩
abbrev L4:List Sym:=[zS,aS,aAdd,fS]
theorem ints_arg (w:World) (xs:List Int) (T:TypeId) (hx:xs.length≤2000) {o:Obj} (ho:o=.cells (iv xs).toArray T (0,0)):Arg (w.alloc o) (some ⟨w.heap.size,0,none⟩) xs xs.length:=
 ⟨ints_new w xs T ho,Nat.le_refl _,(fun e=>by cases e),by omega⟩
theorem rs_two (w:World) (x1 x2 y1 y2:List Int) (T1 T2 T3 T4 T5:TypeId) (b1:x1.length≤2000) (b2:x2.length≤2000) (b3:y1.length≤2000) (b4:y2.length≤2000) {o1 o2 o3 o4 o5:Obj} (h1:o1=.cells (iv x1).toArray T1 (0,0)) (h2:o2=.cells (iv x2).toArray T2 (0,0)) (h3:o3=.cells (iv y1).toArray T3 (0,0)) (h4:o4=.cells (iv y2).toArray T4 (0,0))
  (h5:o5=.cells #[.slice (some ⟨w.heap.size,0,none⟩) x1.length x1.length,.slice (some ⟨w.heap.size+1,0,none⟩) x2.length x2.length,.slice (some ⟨w.heap.size+1+1,0,none⟩) y1.length y1.length,.slice (some ⟨w.heap.size+1+1+1,0,none⟩) y2.length y2.length] T5 (0,0)) :
  RsAt (((((w.alloc o1).alloc o2).alloc o3).alloc o4).alloc o5) (some ⟨w.heap.size+1+1+1+1,0,none⟩) [(x1,x2),(y1,y2)]∧Same0 w (((((w.alloc o1).alloc o2).alloc o3).alloc o4).alloc o5):=by
 have k1:Same0 w (w.alloc o1):=(Kept.refl _ w).alloc _
 have k2:Same0 (w.alloc o1) ((w.alloc o1).alloc o2):=(Kept.refl _ _).alloc _
 have k3:Same0 ((w.alloc o1).alloc o2) (((w.alloc o1).alloc o2).alloc o3):=(Kept.refl _ _).alloc _
 have k4:Same0 (((w.alloc o1).alloc o2).alloc o3) ((((w.alloc o1).alloc o2).alloc o3).alloc o4):=(Kept.refl _ _).alloc _
 have k5:Same0 ((((w.alloc o1).alloc o2).alloc o3).alloc o4) (((((w.alloc o1).alloc o2).alloc o3).alloc o4).alloc o5):=(Kept.refl _ _).alloc _
 have a1:=((((ints_arg w x1 T1 b1 h1).same k2).same k3).same k4).same k5
 have a2:=(((ints_arg (w.alloc o1) x2 T2 b2 h2).same k3).same k4).same k5
 have a3:=((ints_arg ((w.alloc o1).alloc o2) y1 T3 b3 h3).same k4).same k5
 have a4:=(ints_arg (((w.alloc o1).alloc o2).alloc o3) y2 T4 b4 h4).same k5
 have hb:=heap_alloc_new ((((w.alloc o1).alloc o2).alloc o3).alloc o4) o5
 simp only [World.size_alloc] at a2 a3 a4 hb
 rw [h5] at hb
 refine ⟨.inr ⟨_,0,rfl,by simp,fun i hi=>?_⟩,(((k1.trans' k2).trans' k3).trans' k4).trans' k5⟩
 rw [h5] at *
 have hi' : i<2:=by simpa using hi
 match i,hi' with
 | 0,_=>exact ⟨_,_,_,_,cellAt hb 0,cellAt hb 1,a1,a2⟩
 | 1,_=>exact ⟨_,_,_,_,cellAt hb 2,cellAt hb 3,a3,a4⟩
theorem wrs_new (w:World) (ws:List (Int × Int)) (cs:Array Value) (T:TypeId) {o:Obj} (ho:o=.cells cs T (0,0)) (hc:∀ i (h:i<ws.length),cs[i * 2]? = some (.int .i64 ws[i].1)∧cs[i * 2+1]? = some (.int .i64 ws[i].2)) (n:Nat) (hn:n=ws.length):WrsAt (w.alloc o) (.slice (some ⟨w.heap.size,0,none⟩) n n) ws:=by
 subst ho hn
 exact ⟨_,_,rfl,.inr ⟨_,rfl,by simp,fun i hi=>⟨(cellAt (heap_alloc_new w _) _).trans (hc i hi).1,(cellAt (heap_alloc_new w _) _).trans (hc i hi).2⟩⟩⟩
def KidCut (W1:World) (bs:Nat) (Q:List (List Int)) (wr:World) (s13:Value) (wc:World):Prop:=
 ∃ kb vo vc,s13=.pointer (some ⟨kb,0,none⟩)∧W1.heap.size≤kb∧wc.heap[kb]? = some (.cells #[.pointer (some ⟨bs,0,none⟩),.slice vo Q.length vc,.slice none 0 0] 230 (0,0))∧PsAt wc vo Q∧(vo=none→vc=0)∧Q.length≤vc∧Same0 wr wc
abbrev zeroNd:Obj:=.cells #[.pointer none,.slice none 0 0,.slice none 0 0] 230
theorem kidcut_a {W1 wr w8:World} {bs vc:Nat} {Q:List (List Int)} {vo:Option Addr} (h1:Same0 W1 wr) (h2:Same0 wr w8) (hp:PsAt w8 vo Q) (hn:vo=none→vc=0) (hl:Q.length≤vc):KidCut W1 bs Q wr (.pointer (some ⟨w8.heap.size,0,none⟩)) (w8.alloc (.cells #[.pointer (some ⟨bs,0,none⟩),.slice vo Q.length vc,.slice none 0 0] 230)):=
 ⟨_,vo,vc,rfl,(h1.trans' h2).size,heap_alloc_new _ _,hp.same ((Kept.refl _ _).alloc _),hn,hl,h2.alloc _⟩
theorem kidcut_b {W1 wr w8:World} {bs vc:Nat} {Q:List (List Int)} {vo:Option Addr} (h1:Same0 W1 wr) (h2:Same0 (wr.alloc zeroNd).drew w8) (hp:PsAt w8 vo Q) (hn:vo=none→vc=0) (hl:Q.length≤vc) :
  KidCut W1 bs Q wr (.pointer (some ⟨wr.heap.size,0,none⟩)) (((w8.setCell ⟨wr.heap.size,0,none⟩ (.pointer (some ⟨bs,0,none⟩))).setCell ⟨wr.heap.size,1,none⟩ (.slice vo Q.length vc)).setCell ⟨wr.heap.size,2,none⟩ (.slice none 0 0)):=by
 have hb:w8.heap[wr.heap.size]? = some (.cells #[.pointer none,.slice none 0 0,.slice none 0 0] 230 (0,0)):=h2.at0 (heap_alloc_new wr _)
 have ha:Same0 wr (wr.alloc zeroNd).drew:=((Kept.refl _ wr).alloc _).drew
 have hk:Same0 wr w8:=ha.trans' h2
 have s1:=setAt hb 0 (.pointer (some ⟨bs,0,none⟩))
 have s2:=setAt s1 1 (.slice vo Q.length vc)
 have s3:=setAt s2 2 (.slice none 0 0)
 have kk:Kept (fun q=>q=wr.heap.size) w8 (((w8.setCell ⟨wr.heap.size,0,none⟩ (.pointer (some ⟨bs,0,none⟩))).setCell ⟨wr.heap.size,1,none⟩ (.slice vo Q.length vc)).setCell ⟨wr.heap.size,2,none⟩ (.slice none 0 0)):=by
  have k1:=Kept.setCell (p:=⟨wr.heap.size,0,none⟩) (Kept.refl (fun q=>q=wr.heap.size) w8) (fun _=>rfl) (.pointer (some ⟨bs,0,none⟩))
  have k2:=Kept.setCell (p:=⟨wr.heap.size,1,none⟩) k1 (fun _=>rfl) (.slice vo Q.length vc)
  exact Kept.setCell (p:=⟨wr.heap.size,2,none⟩) k2 (fun _=>rfl) (.slice none 0 0)
 exact ⟨_,vo,vc,rfl,h1.size,s3,hp.keptN kk (fun q e=>by subst e;exact ⟨_,hb⟩),hn,hl,Kept.trans hk kk (fun i hi e=>by omega)⟩
set_option maxHeartbeats 16000000 in
theorem kid_any {w:World} {L:List Sym} {bs:Nat} {po:Option Addr} {pc:Nat} {P:List (List Int)} {c s:Nat} {ho:Option Addr} {H:List Rw} (h:KidIn w L bs po pc P c s ho H) {no:Option Addr} {nl nc hcap:Nat} :
  Calls Tryz.prog 182 #[.agg #[.pointer (some ⟨bs,0,none⟩),.slice po P.length pc,.slice no nl nc],.int .i64 (c:Int),.int .i64 (s:Int),.slice ho H.length hcap] w (KidOut w L bs P c s H):=by
 have hc:=h.c'
 have hs' := h.s'
 have hle:=h.le
 have hfew:=h.few
 have hpl:=h.len _ (List.getElem_mem hc)
 have har:((arN L (s:Int):Nat):Int)=L[s].ar:=ar_of h.sig.2 h.s'
 have hA6:=arN_le h.sig.2 (s:Int)
 obtain ⟨W1,hW1⟩:∃ W1,W1=(w.alloc (.cells #[.pointer (some ⟨bs,0,none⟩),.slice po P.length pc,.slice no nl nc] 230)).alloc (.cells #[.pointer none,.slice none 0 0,.slice none 0 0] 230):=⟨_,rfl⟩
 have KW:Same0 w W1:=by rw [hW1];exact ((Kept.refl _ w).alloc _).alloc _
 have HH:Hid (∀ ww,Same0 W1 ww→KidIn ww L bs po pc P c s ho H):=fun ww hk=>h.same (KW.trans' hk)
 have BX:Hid (∀ ww,Same0 W1 ww→ww.cell? ⟨w.heap.size,0,none⟩=some (.pointer (some ⟨bs,0,none⟩))∧ww.cell? ⟨w.heap.size,1,none⟩=some (.slice po P.length pc)):=fun ww hk=>by
  have hb:W1.heap[w.heap.size]? = some (.cells #[.pointer (some ⟨bs,0,none⟩),.slice po P.length pc,.slice no nl nc] 230 (0,0)):=by rw [hW1];exact heap_alloc2_old _ _ _
  exact ⟨cellAt (hk.at0 hb) 0,cellAt (hk.at0 hb) 1⟩
 have RS:Hid (∀ ww,Same0 W1 ww→ww.heap[w.heap.size+1]? = some (.cells #[.pointer none,.slice none 0 0,.slice none 0 0] 230 (0,0))):=fun ww hk=>hk.at0 (by rw [hW1];exact heap_al_al _ _ _)
 have CA:Hid (∀ ww,Same0 W1 ww→Calls Tryz.prog 180 #[.pointer (some ⟨bs,0,none⟩),.int .i64 (s:Int)] ww fun e w' => e=.returned (.tuple #[.agg #[.string L[s].name,.int .i64 ((arN L (s:Int):Nat):Int),.bool L[s].df],.int .i64 0])∧Same0 ww w'):=fun ww hk=>by
  have:=sg_at_yes (HH.out ww hk).sig h.s'
  rw [har]
  exact this
 obtain ⟨pb,poff,ao,ac,rfl,hpb,hcell,hArg⟩:=h.ps.get hc
 have PC:Hid (∀ ww,Same0 w ww→ww.cell? ⟨pb,poff+c,none⟩=some (.slice ao P[c].length ac)):=fun ww hk=>(hk.cell (p:=⟨pb,poff+c,none⟩) hpb (fun f=>f)).trans hcell
 have CAT:Hid (∀ (ww:World) (k:Nat),Same0 w ww→Calls Tryz.prog 196 #[.slice (some ⟨ww.heap.size+1,0,none⟩) 2 2] ((ww.alloc (.cells #[.int .i64 (k:Int)] 3)).alloc (.cells #[.slice ao P[c].length ac,.slice (some ⟨ww.heap.size,0,none⟩) 1 1] 51)) fun e w' => ∃ vo vc,e=.returned (.slice vo (P[c].length+1) vc)∧Hid (ArgT w' vo (P[c] ++ [(k:Int)]) vc)∧Same0 ww w'):=by
  intro ww k hk
  have k1:Same0 ww (ww.alloc (.cells #[.int .i64 (k:Int)] 3)):=(Kept.refl _ _).alloc _
  have k2:Same0 (ww.alloc (.cells #[.int .i64 (k:Int)] 3)) ((ww.alloc (.cells #[.int .i64 (k:Int)] 3)).alloc (.cells #[.slice ao P[c].length ac,.slice (some ⟨ww.heap.size,0,none⟩) 1 1] 51)):=(Kept.refl _ _).alloc _
  have s1:Src ((ww.alloc (.cells #[.int .i64 (k:Int)] 3)).alloc (.cells #[.slice ao P[c].length ac,.slice (some ⟨ww.heap.size,0,none⟩) 1 1] 51)) (some ⟨ww.heap.size,0,none⟩) 1 1 (iv [(k:Int)]):=((ints_arg ww [(k:Int)] 3 (by simp) rfl).src).same k2
  refine (concat2_nums (heap_al_al _ _ _) ((hArg.1.same ((hk.trans' k1).trans' k2)).src) s1 (by omega)).mono ?_
  rintro e w' ⟨v,rfl,hr,hk3⟩
  have hr' : Row ww.heap.size w' v (P[c] ++ [(k:Int)]):=by
   unfold Row
   rw [iv_append,List.length_append]
   exact row_mono hr (by simp only [World.size_alloc];omega)
  obtain ⟨vo,vc,rfl,a1,_⟩:=hr'.arg (by simp;omega)
  exact ⟨vo,vc,by simp,a1,(k1.trans' k2).trans' hk3⟩
 obtain ⟨i,hi,hz0,hz1,hz2⟩:=info_parts info_paths
 generalize hA:arN L (s:Int)=A at *
 have HA:Hid (arN L (s:Int)=A):=hA
 have hPc:Hid (P.getD c []=P[c]):=getD_lt hc []
 clear hA har hcell hArg h
 go_enter Tryz.func182,Tryz.ntmps182
 go_upto_region 1 with fail
 rw [← hW1]
 have ez:w.heap.size+1<W1.heap.size:=by rw [hW1];simp
 clear hW1
 obtain ⟨b0,b1⟩:=BX.out W1 (Kept.refl _ _)
 have C1:=CA.out W1 (Kept.refl _ _)
 go_wp2_with (first
  | (go_at_call 180;refine C1.mono ?_;rintro e w2 ⟨rfl,hk2⟩)
  | (at_make;refine wpList_make_full _ rfl _ _ 50 rfl w.heap.size 51 i _ 1 Tryz.underlying50 hi hz0 hz1 _ _ _ _ A rfl rfl rfl rfl (by rw [hz2];omega) (by unfold maxLen;omega) (Nat.le_trans KW.size (Nat.le_trans hk2.size (by simp))) ?_;intro w3 hown hgrow;have hk3:Same0 (w2.alloc (.cells #[.string L[s].name,.int .i64 (A:Int),.bool L[s].df] 60)) w3:=Same0.grown (Kept.refl _ _) hgrow;have y1:w3.cell? ⟨w2.heap.size,1,none⟩=some (.int .i64 (A:Int)):=cellAt (hk3.at0 (heap_alloc_new w2 _)) 1))
 simp only [World.size_alloc] at hown
 have k3:Same0 W1 w3:=hk2.trans' (Same0.trans' ((Kept.refl _ w2).alloc _) hk3)
 obtain ⟨g,hg⟩:∃ g,g=w2.heap.size+1:=⟨_,rfl⟩
 have hgW:W1.heap.size≤g:=by rw [hg];have:=hk2.size;omega
 rw [← hg] at hown ⊢
 have L0:Hid (LaidQ w.heap.size g A 0 (belowP L P c 0) W1 w3):=⟨_,hown,by simpa [belowP] using PCells.nil w3,k3⟩
 clear hown hgrow hk3 y1 hg C1 b0 b1 CA hi hz0 hz1 hz2
 go_loopw [30] (fun i wr=>∃ k:Nat,k≤A∧i=.int .i64 (k:Int)∧Hid (LaidQ w.heap.size g A k (belowP L P c k) W1 wr)) (fun i _=>A-(intOf i).toNat)
 case atStart=>exact ⟨0,Nat.zero_le _,rfl,L0⟩
 case round=>
  clear L0
  obtain ⟨k,hkA,rfl,hL⟩:=hrel
  have kr:Same0 W1 wr:=by obtain ⟨_,_,_,q⟩:=hL.out;exact q
  obtain ⟨b0,b1⟩:=BX.out wr kr
  by_cases hlt:k<A
  ·obtain ⟨old,f1,f2⟩:=hL.out.cell hlt
   have p1:=PC.out wr (KW.trans' kr)
   have CC:=CAT.out wr k (KW.trans' kr)
   have i1:(0:Int)≤(c:Int):=by omega
   have i2:(c:Int)<(P.length:Int):=by omega
   have i3:(0:Int)≤(k:Int):=by omega
   have i4:(k:Int)<(A:Int):=by omega
   have FIN:Hid (∀ w5 vo vc,Same0 wr w5→ArgT w5 vo (P[c] ++ [(k:Int)]) vc→(∃ old,w5.cell? ⟨g,k,none⟩=some old∧w5.frozen? ⟨g,k,none⟩=false)∧Hid (LaidQ w.heap.size g A (k+1) (belowP L P c (k+1)) W1 (w5.setCell ⟨g,k,none⟩ (.slice vo (P[c].length+1) vc)))):=fun w5 vo vc k5 a5=>by
    have l5:=hL.out.same k5
    refine ⟨l5.cell hlt,?_⟩
    show LaidQ _ _ _ _ _ _ _
    have:=l5.next hlt hgW a5
    rw [belowP_succ,hPc.out]
    simpa using this
   clear hL
   go_wp2_with (first
    | (go_at_call 196;refine CC.mono ?_;rintro e w5 ⟨vo,vc,rfl,ha5,hk5⟩;obtain ⟨⟨old5,q1,q2⟩,q3⟩:=FIN.out w5 vo vc hk5 ha5.out))
   exact ⟨⟨k+1,by omega,by go_num,q3⟩,by simp [intOf];omega⟩
  ·obtain rfl:k=A:=by omega
   clear CAT PC
   have KPH:Hid (∀ ww,Same0 wr ww→Calls Tryz.prog 232 #[.slice (some ⟨pb,poff,none⟩) P.length pc,.int .i64 (c:Int),.slice (some ⟨g,0,none⟩) k k] ww fun e w' => ∃ vo vc,e=.returned (.slice vo (kidP L P c s).length vc)∧Hid (PsAt w' vo (kidP L P c s)∧(vo=none→vc=0)∧(kidP L P c s).length≤vc)∧Same0 ww w'):=fun ww hk=>(kid_paths (HH.out ww (kr.trans' hk)) HA.out.symm hA6 (hL.out.same hk)).mono (fun e w' ⟨vo,vc,q1,q2,q3,q4,q5⟩=>⟨vo,vc,q1,⟨q2,q3,q4⟩,q5⟩)
   clear hL
   go_upto_region 8 with fail
   go_cut [13] from 46 to 53 (fun s13 wc=>KidCut W1 bs (kidP L P c s) wr s13 wc)
   case first=>
    have FA:Hid (∀ w8 vo vc,Same0 wr.drew w8→PsAt w8 vo (kidP L P c s)∧(vo=none→vc=0)∧(kidP L P c s).length≤vc→KidCut W1 bs (kidP L P c s) wr (.pointer (some ⟨w8.heap.size,0,none⟩)) (w8.alloc (.cells #[.pointer (some ⟨bs,0,none⟩),.slice vo (kidP L P c s).length vc,.slice none 0 0] 230))):=fun w8 vo vc h2 q=>kidcut_a kr (Same0.trans' ((Kept.refl _ wr).drew) h2) q.1 q.2.1 q.2.2
    have FB:Hid (∀ w8 vo vc,Same0 (wr.alloc zeroNd).drew w8→PsAt w8 vo (kidP L P c s)∧(vo=none→vc=0)∧(kidP L P c s).length≤vc→KidCut W1 bs (kidP L P c s) wr (.pointer (some ⟨wr.heap.size,0,none⟩)) (((w8.setCell ⟨wr.heap.size,0,none⟩ (.pointer (some ⟨bs,0,none⟩))).setCell ⟨wr.heap.size,1,none⟩ (.slice vo (kidP L P c s).length vc)).setCell ⟨wr.heap.size,2,none⟩ (.slice none 0 0))):=fun w8 vo vc h2 q=>kidcut_b kr h2 q.1 q.2.1 q.2.2
    have d0:wr.drew.cell? ⟨w.heap.size,0,none⟩=some (.pointer (some ⟨bs,0,none⟩)):=b0
    have d1:wr.drew.cell? ⟨w.heap.size,1,none⟩=some (.slice (some ⟨pb,poff,none⟩) P.length pc):=b1
    have WA:Same0 wr wr.drew:=(Kept.refl _ wr).drew
    have WB:Same0 wr (wr.alloc zeroNd).drew:=((Kept.refl _ wr).alloc _).drew
    have BY:Hid (∀ ww,Same0 wr ww→ww.cell? ⟨w.heap.size,0,none⟩=some (.pointer (some ⟨bs,0,none⟩))∧ww.cell? ⟨w.heap.size,1,none⟩=some (.slice (some ⟨pb,poff,none⟩) P.length pc)):=fun ww hk=>BX.out ww (kr.trans' hk)
    obtain ⟨g0,g1⟩:=BY.out _ WB
    have ZB:Hid (∀ w8,Same0 (wr.alloc zeroNd).drew w8→(w8.cell? ⟨wr.heap.size,0,none⟩=some (.pointer none)∧w8.cell? ⟨wr.heap.size,1,none⟩=some (.slice none 0 0)∧w8.cell? ⟨wr.heap.size,2,none⟩=some (.slice none 0 0))∧w8.frozen? ⟨wr.heap.size,0,none⟩=false∧w8.frozen? ⟨wr.heap.size,1,none⟩=false∧w8.frozen? ⟨wr.heap.size,2,none⟩=false):=fun w8 h8=>by
     have hb:w8.heap[wr.heap.size]? = some (.cells #[.pointer none,.slice none 0 0,.slice none 0 0] 230 (0,0)):=h8.at0 (heap_alloc_new wr _)
     exact ⟨⟨cellAt hb 0,cellAt hb 1,cellAt hb 2⟩,frozenAt hb 0,frozenAt hb 1,frozenAt hb 2⟩
    clear KW k3 HH BX RS
    generalize (kidP L P c s)=KPL at *
    have SB:Hid (∀ w8 x0 x1 x2,Same0 wr w8→Same0 wr (((w8.setCell ⟨wr.heap.size,0,none⟩ x0).setCell ⟨wr.heap.size,1,none⟩ x1).setCell ⟨wr.heap.size,2,none⟩ x2)):=fun w8 x0 x1 x2 h8=>((h8.own (Nat.le_refl _) x0).own (Nat.le_refl _) x1).own (Nat.le_refl _) x2
    have CC0:=And.intro b0 b1
    go_region_held3 (fun w' => w'.cell? ⟨w.heap.size,0,none⟩=some (.pointer (some ⟨bs,0,none⟩))∧w'.cell? ⟨w.heap.size,1,none⟩=some (.slice (some ⟨pb,poff,none⟩) P.length pc)) (first | exact CC0 | exact BY.out _ (by first | assumption | exact Kept.alloc (by assumption) _ | exact SB.out _ _ _ _ k8 | exact Kept.alloc (Kept.refl _ _) _ | exact Kept.drew (Kept.alloc (Kept.refl _ _) _) | exact Kept.alloc (Kept.drew (Kept.refl _ _)) _)) (first
     | (go_at_call 232;refine (KPH.out _ WA).mono ?_;rintro e w8 ⟨vo,vc,rfl,z1,z4⟩;have k8:=WA.trans' z4;obtain ⟨e0,e1⟩:=BY.out w8 k8;have KC:=FA.out w8 vo vc z4 z1.out)
     | (go_at_call 232;refine (KPH.out _ WB).mono ?_;rintro e w8 ⟨vo,vc,rfl,z1,z4⟩;have k8:=WB.trans' z4;obtain ⟨e0,e1⟩:=BY.out w8 k8;obtain ⟨⟨y0,y1,y2⟩,y3,y4,y5⟩:=ZB.out w8 z4;have KC:=FB.out w8 vo vc z4 z1.out))
    all_goals
     go_wp2_with fail
     go_meet
     exact KC
   case rest=>
    obtain ⟨kb,vo,vc,rfl,hkb,hN0,hps,hvn,hvc,k8⟩:=hcut
    obtain ⟨we,rfl⟩:∃ we,we=wc:=⟨_,rfl⟩
    have K8:Same0 W1 we:=kr.trans' k8
    have HPS:Hid (PsAt we vo (kidP L P c s)):=hps
    have HVN:Hid ((vo=none→vc=0)∧(kidP L P c s).length≤vc):=⟨hvn,hvc⟩
    have hkbl:kb<we.heap.size:=lt_of_at hN0
    generalize hkp:kidP L P c s=KPL at *
    have HKP:Hid (kidP L P c s=KPL):=hkp
    have HN0:Hid (we.heap[kb]? = some (.cells #[.pointer (some ⟨bs,0,none⟩),.slice vo KPL.length vc,.slice none 0 0] 230 (0,0))):=hN0
    clear KPH b0 b1 hps hvn hvc kr k8 hkp k3 hk2 hgW hN0
    go_wp2_with fail
    go_loopw [56] (fun i wr=>∃ (k:Nat) (lv:Value) (us:List Value),k≤H.length∧i=.int .i64 (k:Int)∧Hid (wr.heap[kb]? = some (.cells #[.pointer (some ⟨bs,0,none⟩),.slice vo KPL.length vc,lv] 230 (0,0)))∧Hid (wr.ownsRow we.heap.size 308 3 lv k us)∧Hid (WCells wr us ((H.take k).map (kidX L c)))∧Same0 W1 wr∧Kept (fun q=>q=kb) we wr) (fun i _=>H.length-(intOf i).toNat)
    case atStart=>exact ⟨0,.slice none 0 0,[],Nat.zero_le _,rfl,HN0,World.ownsRow_nil _ _ _ _,by simpa [Hid] using WCells.nil _,K8,Kept.refl _ _⟩
    case round=>
     obtain ⟨j,lv,us,hj,rfl,hN,hr,hus,hw,hwe⟩:=hrel
     obtain ⟨lo,lc,rfl⟩:=row_shape hr.out
     obtain ⟨b0,b1⟩:=BX.out wr hw
     by_cases hlt:j<H.length
     ·have HI:=HH.out wr hw
      obtain ⟨hb,hoff,rfl,hhb,xo,xc,yo,yc,r0,r1,r2,A1,A2⟩:=HI.hs.get hlt
      obtain ⟨ok1,ok2,ok3,ok4⟩:=HI.ok _ (List.getElem_mem hlt)
      have hc2:c<H[j].2.2.length:=by omega
      have hp2:=ok3 _ (List.getElem_mem hc2)
      have hT:=checkE_zero.1 ok1
      have i1:(0:Int)≤(j:Int):=by omega
      have i2:(j:Int)<(H.length:Int):=by omega
      have i3:(0:Int)≤(c:Int):=by omega
      have i4:(c:Int)<(H[j].2.2.length:Int):=by omega
      obtain ⟨WB,hWB⟩:∃ WB,WB=wr.alloc (.cells #[.int .i64 H[j].1,.slice xo H[j].2.1.length xc,.slice yo H[j].2.2.length yc] 308):=⟨_,rfl⟩
      have kB:Same0 wr WB:=by rw [hWB];exact (Kept.refl _ _).alloc _
      obtain ⟨pb2,poff2,rfl,hpb2,hpc2⟩:=A2.1.at'.get (i:=c) (by rw [ofN_len];exact hc2)
      have e2:(ofN H[j].2.2)[c]'(by rw [ofN_len];exact hc2)=((H[j].2.2[c]:Nat):Int):=by simp [ofN]
      rw [e2] at hpc2
      have hpE:placeE L H[j].2.1 ((H[j].2.2[c]:Nat):Int)=0:=by unfold placeE;rw [if_neg (by simp [ok1]),if_neg (by omega)]
      have CAR:Hid (∀ m,Calls Tryz.prog 233 #[.pointer (some ⟨bs,0,none⟩),.slice xo H[j].2.1.length xc,.int .i64 ((H[j].2.2[c]:Nat):Int)] (WB.drewN m) fun e w' => ∃ qo qc,e=.returned (.tuple #[.slice qo (argsN L H[j].2.1 H[j].2.2[c]).length qc,.int .i64 0])∧Hid (ArgT w' qo (ofN (argsN L H[j].2.1 H[j].2.2[c])) qc)∧Same0 WB w'):=fun m=>by
       have km:Same0 WB (WB.drewN m):=(Kept.refl _ _).drewN m
       refine (args_any (cap:=xc) (HH.out _ ((hw.trans' kB).trans' km)).sig ((A1.same kB).same km).1.at' (by unfold maxLen;omega) _).mono ?_
       rintro e w' ⟨v,rfl,hrow,hk'⟩
       rw [argsA,if_pos hpE] at hrow
       simp only [Int.toNat_natCast] at hrow
       have hlen:(argsN L H[j].2.1 H[j].2.2[c]).length≤6:=by rw [argsN_eq hp2,starts_length];exact arN_le HI.sig.2 _
       obtain ⟨qo,qc,rfl,a1,_⟩:=hrow.arg (by rw [ofN_len];omega)
       exact ⟨qo,qc,by rw [hpE,ofN_len],a1,km.trans' hk'⟩
      have kbT:∀ ww,Same0 wr ww→ww.heap[kb]? = some (.cells #[.pointer (some ⟨bs,0,none⟩),.slice vo KPL.length vc,.slice lo j lc] 230 (0,0)):=fun ww hk=>hk.at0 hN.out
      have CELLS:Hid (∀ ww,Same0 WB ww→(ww.cell? ⟨kb,2,none⟩=some (.slice lo j lc)∧ww.cell? ⟨w.heap.size,0,none⟩=some (.pointer (some ⟨bs,0,none⟩)))∧ww.cell? ⟨wr.heap.size,0,none⟩=some (.int .i64 H[j].1)∧ww.cell? ⟨wr.heap.size,1,none⟩=some (.slice xo H[j].2.1.length xc)∧ww.cell? ⟨wr.heap.size,2,none⟩=some (.slice (some ⟨pb2,poff2,none⟩) H[j].2.2.length yc)∧ww.cell? ⟨pb2,poff2+c,none⟩=some (.int .i64 ((H[j].2.2[c]:Nat):Int))):=fun ww hk=>by
       have hbx:WB.heap[wr.heap.size]? = some (.cells #[.int .i64 H[j].1,.slice xo H[j].2.1.length xc,.slice (some ⟨pb2,poff2,none⟩) H[j].2.2.length yc] 308 (0,0)):=by rw [hWB];exact heap_alloc_new _ _
       exact ⟨⟨cellAt (kbT ww (kB.trans' hk)) 2,(BX.out ww ((hw.trans' kB).trans' hk)).1⟩,cellAt (hk.at0 hbx) 0,cellAt (hk.at0 hbx) 1,cellAt (hk.at0 hbx) 2,((kB.trans' hk).cell (p:=⟨pb2,poff2+c,none⟩) hpb2 (fun f=>f)).trans hpc2⟩
      have CR:Hid (∀ (ww:World) qo qc,Same0 WB ww→ArgT ww qo (ofN (argsN L H[j].2.1 H[j].2.2[c])) qc→Calls Tryz.prog 234 #[.slice (some ⟨pb2,poff2,none⟩) H[j].2.2.length yc,.int .i64 (c:Int),.slice qo (argsN L H[j].2.1 H[j].2.2[c]).length qc] ww fun e w' => ∃ zo zc,e=.returned (.slice zo (kidX L c H[j]).2.2.length zc)∧Hid (ArgT w' zo (ofN (kidX L c H[j]).2.2) zc)∧Same0 WB w'):=fun ww qo qc hk ha=>by
       have s0:=((A2.same kB).same hk).1.src
       have s1:=ha.1.src
       rw [ofN_len] at s0 s1
       have hcp:=A2.1.cap'
       rw [ofN_len] at hcp
       have hlen:(argsN L H[j].2.1 H[j].2.2[c]).length≤6:=by rw [argsN_eq hp2,starts_length];exact arN_le HI.sig.2 _
       refine (replaced_nums s0 (Nat.lt_of_lt_of_le hpb2 (kB.trans' hk).size) hcp s1 hc2 (by omega)).mono ?_
       rintro e w' ⟨v,rfl,hrow,hk'⟩
       have hx:(kidX L c H[j]).2.2=H[j].2.2.take c++argsN L H[j].2.1 H[j].2.2[c]++H[j].2.2.drop (c+1):=by
        simp only [kidX,repl];rw [getD_lt hc2]
       have hrow' : Row ww.heap.size w' v (ofN (kidX L c H[j]).2.2):=by
        unfold Row
        rw [ofN_len,hx]
        have e1:(H[j].2.2.take c++argsN L H[j].2.1 H[j].2.2[c]++H[j].2.2.drop (c+1)).length=H[j].2.2.length-1+(argsN L H[j].2.1 H[j].2.2[c]).length:=by simp;omega
        rw [e1]
        have e3:iv (ofN (H[j].2.2.take c++argsN L H[j].2.1 H[j].2.2[c]++H[j].2.2.drop (c+1)))=(iv (ofN H[j].2.2)).take c++iv (ofN (argsN L H[j].2.1 H[j].2.2[c]))++(iv (ofN H[j].2.2)).drop (c+1):=by
         rw [ofN_iv_take,ofN_iv_drop];simp [ofN,iv]
        rw [e3]
        exact hrow
       obtain ⟨zo,zc,rfl,a1,_⟩:=hrow'.arg (by rw [ofN_len,hx];simp;omega)
       exact ⟨zo,zc,by rw [ofN_len],a1,hk.trans' hk'⟩
      have FIN:Hid (∀ w2 zo zc g cap w11,Same0 WB w2→ArgT w2 zo (ofN (kidX L c H[j]).2.2) zc→w11.ownsRow we.heap.size 308 3 (.slice (some ⟨g,0,none⟩) (j+1) cap) (j+1) (us ++ [.int .i64 H[j].1,.slice xo H[j].2.1.length xc,.slice zo (kidX L c H[j]).2.2.length zc])→Kept (fun q=>(Value.slice lo j lc).ownBlock=some q) w2 w11→(w11.cell? ⟨kb,2,none⟩=some (.slice lo j lc)∧w11.frozen? ⟨kb,2,none⟩=false)∧Hid (∃ us', Hid ((w11.setCell ⟨kb,2,none⟩ (.slice (some ⟨g,0,none⟩) (j+1) cap)).heap[kb]? = some (.cells #[.pointer (some ⟨bs,0,none⟩),.slice vo KPL.length vc,.slice (some ⟨g,0,none⟩) (j+1) cap] 230 (0,0)))∧Hid ((w11.setCell ⟨kb,2,none⟩ (.slice (some ⟨g,0,none⟩) (j+1) cap)).ownsRow we.heap.size 308 3 (.slice (some ⟨g,0,none⟩) (j+1) cap) (j+1) us')∧Hid (WCells (w11.setCell ⟨kb,2,none⟩ (.slice (some ⟨g,0,none⟩) (j+1) cap)) us' ((H.take (j+1)).map (kidX L c)))∧Same0 W1 (w11.setCell ⟨kb,2,none⟩ (.slice (some ⟨g,0,none⟩) (j+1) cap))∧Kept (fun q=>q=kb) we (w11.setCell ⟨kb,2,none⟩ (.slice (some ⟨g,0,none⟩) (j+1) cap)))):=by
       intro w2 zo zc g cap w11 k2 a2 r11 k11
       have kr2:Same0 wr w2:=kB.trans' k2
       have hr2:=kr2.row hr.out (fun _ _ f=>f)
       have n2:=kbT w2 kr2
       have nk:¬ (Value.slice lo j lc).ownBlock=some kb:=fun e=>by
        obtain ⟨cu,h5⟩:=own_blk hr2 e
        rw [n2] at h5;cases h5
       have n11:=k11.at n2 nk
       have ks:Kept (fun q=>q=kb) w11 (w11.setCell ⟨kb,2,none⟩ (.slice (some ⟨g,0,none⟩) (j+1) cap)):=Kept.setCell (p:=⟨kb,2,none⟩) (Kept.refl (fun q=>q=kb) w11) (fun _=>rfl) _
       refine ⟨⟨cellAt n11 2,frozenAt n11 2⟩,us ++ [.int .i64 H[j].1,.slice xo H[j].2.1.length xc,.slice zo (kidX L c H[j]).2.2.length zc],setAt n11 2 _,?_,?_,?_,?_⟩
       ·exact ks.row r11 (fun q e f=>by
         obtain ⟨cu,h5⟩:=own_blk r11 e
         subst f
         rw [n11] at h5;cases h5)
       ·show WCells _ _ _
        rw [List.take_add_one,List.getElem?_eq_getElem hlt,List.map_append]
        have:=(hus.out.same kr2).snoc (x:=kidX L c H[j]) (A1.same kr2) a2
        exact (this.kept k11 (row_ty hr2)).kept ks (fun q e cur h5=>by subst e;rw [n11] at h5;cases h5)
       ·refine Kept.trans (Kept.trans (hw.trans' kr2) k11 (fun i hi e=>?_)) ks (fun i hi e=>by omega)
        have:=(hr2.lt i e).1
        have:=K8.size
        omega
       ·refine Kept.trans (Kept.trans (hwe.trans kr2.mono' (fun _ _ e=>e)) k11 (fun i hi e=>?_)) ks (fun _ _ e=>e)
        have:=(hr2.lt i e).1
        omega
      have FS:Hid (∀ w10 w11 v,Same0 WB w10→Kept (fun q=>(Value.slice lo j lc).ownBlock=some q) w10 w11→(w11.cell? ⟨wr.heap.size,0,none⟩=some (.int .i64 H[j].1)∧w11.cell? ⟨wr.heap.size,1,none⟩=some (.slice xo H[j].2.1.length xc)∧w11.cell? ⟨wr.heap.size,2,none⟩=some (.slice (some ⟨pb2,poff2,none⟩) H[j].2.2.length yc))∧(w11.setCell ⟨kb,2,none⟩ v).cell? ⟨wr.heap.size,0,none⟩=some (.int .i64 H[j].1)∧(w11.setCell ⟨kb,2,none⟩ v).cell? ⟨wr.heap.size,1,none⟩=some (.slice xo H[j].2.1.length xc)∧(w11.setCell ⟨kb,2,none⟩ v).cell? ⟨wr.heap.size,2,none⟩=some (.slice (some ⟨pb2,poff2,none⟩) H[j].2.2.length yc)):=by
       intro w10 w11 v k10 k11
       have hbx:WB.heap[wr.heap.size]? = some (.cells #[.int .i64 H[j].1,.slice xo H[j].2.1.length xc,.slice (some ⟨pb2,poff2,none⟩) H[j].2.2.length yc] 308 (0,0)):=by rw [hWB];exact heap_alloc_new _ _
       have b11:=k11.at (k10.at0 hbx) (fun e=>by have:=(hr.out.lt _ e).2;omega)
       have ks:Kept (fun q=>q=kb) w11 (w11.setCell ⟨kb,2,none⟩ v):=Kept.setCell (p:=⟨kb,2,none⟩) (Kept.refl (fun q=>q=kb) w11) (fun _=>rfl) _
       have bs:=ks.at b11 (fun e=>by have:=hwe.size;omega)
       exact ⟨⟨cellAt b11 0,cellAt b11 1,cellAt b11 2⟩,cellAt bs 0,cellAt bs 1,cellAt bs 2⟩
      have HRW:Hid (∀ ww,Same0 WB ww→ww.ownsRow we.heap.size 308 3 (.slice lo j lc) j us):=fun ww hk=>(kB.trans' hk).row hr.out (fun _ _ f=>f)
      have hzw:Hid (we.heap.size≤WB.heap.size):=Nat.le_trans hwe.size kB.size
      have CA9:=CAR.out
      obtain ⟨⟨v0,v1⟩,v2,v3,v4,v5⟩:=CELLS.out WB (Kept.refl _ _)
      have u1:WB.drew.cell? ⟨w.heap.size,0,none⟩=some (.pointer (some ⟨bs,0,none⟩)):=v1
      have u3:WB.drew.cell? ⟨wr.heap.size,1,none⟩=some (.slice xo H[j].2.1.length xc):=v3
      have u4:WB.drew.cell? ⟨wr.heap.size,2,none⟩=some (.slice (some ⟨pb2,poff2,none⟩) H[j].2.2.length yc):=v4
      have u5:WB.drew.cell? ⟨pb2,poff2+c,none⟩=some (.int .i64 ((H[j].2.2[c]:Nat):Int)):=v5
      clear CAR hN hr hus hwe hw A1 A2 ok1 ok2 ok3 ok4 hT hpE kbT hpc2 e2 b0 b1 HI kB
      generalize (kidX L c H[j]).2.2.length=M at *
      generalize (argsN L H[j].2.1 H[j].2.2[c]).length=N at *
      go_upto_region 12 with fail
      rw [← hWB]
      clear hWB r0 r1 r2
      go_cut [16] from 60 to 72 (fun s16 wc=>∃ qo qc,s16=.slice qo N qc∧Hid (ArgT wc qo (ofN (argsN L H[j].2.1 H[j].2.2[c])) qc)∧Same0 WB wc)
      case first=>
       have CC0:=And.intro v1 (And.intro v3 (And.intro v4 v5))
       have KEEP:Hid (∀ ww,Same0 WB ww→ww.cell? ⟨w.heap.size,0,none⟩=some (.pointer (some ⟨bs,0,none⟩))∧ww.cell? ⟨wr.heap.size,1,none⟩=some (.slice xo H[j].2.1.length xc)∧ww.cell? ⟨wr.heap.size,2,none⟩=some (.slice (some ⟨pb2,poff2,none⟩) H[j].2.2.length yc)∧ww.cell? ⟨pb2,poff2+c,none⟩=some (.int .i64 ((H[j].2.2[c]:Nat):Int))):=fun ww hk=>by
        obtain ⟨⟨_,q1⟩,_,q3,q4,q5⟩:=CELLS.out ww hk
        exact ⟨q1,q3,q4,q5⟩
       have CAD:=CA9 1
       clear CA9 FIN HRW CR v0 v2 CELLS
       go_region_held3 (fun w' => w'.cell? ⟨w.heap.size,0,none⟩=some (.pointer (some ⟨bs,0,none⟩))∧w'.cell? ⟨wr.heap.size,1,none⟩=some (.slice xo H[j].2.1.length xc)∧w'.cell? ⟨wr.heap.size,2,none⟩=some (.slice (some ⟨pb2,poff2,none⟩) H[j].2.2.length yc)∧w'.cell? ⟨pb2,poff2+c,none⟩=some (.int .i64 ((H[j].2.2[c]:Nat):Int))) (first | exact CC0 | exact KEEP.out _ k9) (first
        | (go_at_call 233;refine CAD.mono ?_;rintro e w9 ⟨qo,qc,rfl,a9,k9⟩))
       all_goals
        go_wp2_with fail
        go_meet
        exact ⟨_,_,rfl,a9,k9⟩
      case rest=>
      obtain ⟨qo,qc,rfl,a9,k9⟩:=hcut
      obtain ⟨w9,rfl⟩:∃ w9,w9=wc:=⟨_,rfl⟩
      clear CA9
      have CR9:=fun ww (hk:Same0 w9 ww)=>CR.out ww qo qc (k9.trans' hk) (a9.out.same hk)
      have CRH:Hid (∀ ww,Same0 w9 ww→Calls Tryz.prog 234 #[.slice (some ⟨pb2,poff2,none⟩) H[j].2.2.length yc,.int .i64 (c:Int),.slice qo N qc] ww fun e w' => ∃ zo zc,e=.returned (.slice zo M zc)∧Hid (ArgT w' zo (ofN (kidX L c H[j]).2.2) zc)∧Same0 WB w'):=CR9
      obtain ⟨⟨x0,x1⟩,x2,x3,x4,x5⟩:=CELLS.out w9 k9
      have hz9:Hid (∀ ww,Same0 WB ww→we.heap.size≤ww.heap.size):=fun ww hk=>Nat.le_trans hzw.out hk.size
      have WD:Same0 w9 w9.drew:=(Kept.refl _ _).drew
      clear CR9 v0 v1 v2 v3 v4 v5 u1 u3 u4 u5 CR a9 x1 x5
      go_wp2_with fail
      have y0:w9.drew.cell? ⟨kb,2,none⟩=some (.slice lo j lc):=x0
      have CC9:=And.intro x2 (And.intro x3 x4)
      have KE:Hid (∀ ww,Same0 WB ww→ww.cell? ⟨wr.heap.size,0,none⟩=some (.int .i64 H[j].1)∧ww.cell? ⟨wr.heap.size,1,none⟩=some (.slice xo H[j].2.1.length xc)∧ww.cell? ⟨wr.heap.size,2,none⟩=some (.slice (some ⟨pb2,poff2,none⟩) H[j].2.2.length yc)):=fun ww hk=>by
       obtain ⟨_,q2,q3,q4,_⟩:=CELLS.out ww hk
       exact ⟨q2,q3,q4⟩
      refine wp_region_held_drew (S:=(fun w' => w'.cell? ⟨wr.heap.size,0,none⟩=some (.int .i64 H[j].1)∧w'.cell? ⟨wr.heap.size,1,none⟩=some (.slice xo H[j].2.1.length xc)∧w'.cell? ⟨wr.heap.size,2,none⟩=some (.slice (some ⟨pb2,poff2,none⟩) H[j].2.2.length yc))) (by kernel_rfl) CC9 (fun hHeld=>?_)
      refine wpAnyH_take (i:=0) (v:=.pointer (some ⟨kb,2,none⟩)) rfl (by kernel_rfl) (by kernel_rfl) (by kernel_rfl) (fun _ _ _ h=>h) (.inl ⟨rfl,fun w' hS=>by simp [go_sem]⟩) hHeld ?_
      refine wpAnyH_take (i:=2) (v:=.pointer (some ⟨wr.heap.size,0,none⟩)) rfl (by kernel_rfl) (by kernel_rfl) (by kernel_rfl) (fun _ _ _ h=>h) (.inl ⟨rfl,fun w' hS=>by simp [go_sem]⟩) hHeld ?_
      refine wpAnyH_take (i:=3) (v:=.int .i64 H[j].1) rfl (by kernel_rfl) (by kernel_rfl) (by kernel_rfl) (fun _ _ _ h=>h) (.inl ⟨rfl,fun w' hS=>by simp [go_sem,hS.1]⟩) hHeld ?_
      refine wpAnyH_take (i:=4) (v:=.pointer (some ⟨wr.heap.size,1,none⟩)) rfl (by kernel_rfl) (by kernel_rfl) (by kernel_rfl) (fun _ _ _ h=>h) (.inl ⟨rfl,fun w' hS=>by simp [go_sem]⟩) hHeld ?_
      refine wpAnyH_take (i:=5) (v:=.slice xo H[j].2.1.length xc) rfl (by kernel_rfl) (by kernel_rfl) (by kernel_rfl) (fun _ _ _ h=>h) (.inl ⟨rfl,fun w' hS=>by simp [go_sem,hS.2.1]⟩) hHeld ?_
      refine wpAnyH_take (i:=6) (v:=.pointer (some ⟨wr.heap.size,2,none⟩)) rfl (by kernel_rfl) (by kernel_rfl) (by kernel_rfl) (fun _ _ _ h=>h) (.inl ⟨rfl,fun w' hS=>by simp [go_sem]⟩) hHeld ?_
      refine wpAnyH_take (i:=7) (v:=.slice (some ⟨pb2,poff2,none⟩) H[j].2.2.length yc) rfl (by kernel_rfl) (by kernel_rfl) (by kernel_rfl) (fun _ _ _ h=>h) (.inl ⟨rfl,fun w' hS=>by simp [go_sem,hS.2.2]⟩) hHeld ?_
      refine wpAnyH_take (i:=8) (v:=.int .i64 (c:Int)) rfl (by kernel_rfl) (by kernel_rfl) (by kernel_rfl) (fun _ _ _ h=>h) (.inl ⟨rfl,fun w' hS=>by simp [go_sem]⟩) hHeld ?_
      refine wpAnyH_take (i:=9) (v:=.slice qo N qc) rfl (by kernel_rfl) (by kernel_rfl) (by kernel_rfl) (fun _ _ _ h=>h) (.inl ⟨rfl,fun w' hS=>by simp [go_sem]⟩) hHeld ?_
      refine wpAnyH_ready (rs:=[1,10]) (by kernel_rfl) (by simp) ?_
      refine AllReadyH.cons rfl (fun K hK=>?_) (AllReadyH.cons rfl (fun K hK=>?_) AllReadyH.nil)
      ·go_simp
       refine hK.out _ _ hHeld (fun hHeld=>?_)
       clear hK K
       refine wpAnyH_ready (rs:=[10]) (by kernel_rfl) (by simp) ?_
       refine AllReadyH.cons rfl (fun K hK=>?_) AllReadyH.nil
       refine step_callx rfl (CRH.out _ WD) (by simp [go_sem]) ?_
       rintro e w10 ⟨zo,zc,rfl,a10,k10⟩
       refine ⟨_,rfl,?_⟩
       obtain ⟨⟨c0,_⟩,c2,c3,c4,_⟩:=CELLS.out _ k10
       obtain ⟨⟨d0,_⟩,_⟩:=CELLS.out _ (k10.alloc (.cells #[.int .i64 H[j].1,.slice xo H[j].2.1.length xc,.slice zo M zc] 308))
       have hz10:=hz9.out _ k10
       refine hK.out _ _ (KE.out _ k10) (fun hHeld=>?_)
       clear hK K
       refine wpAnyH_take (i:=11) (v:=.agg #[.int .i64 H[j].1,.slice xo H[j].2.1.length xc,.slice zo M zc]) rfl (by kernel_rfl) (by kernel_rfl) (by kernel_rfl) (fun _ _ _ h=>h) (.inl ⟨rfl,fun w' hS=>by simp [go_sem]⟩) hHeld ?_
       refine wpAnyH_ready (rs:=[12]) (by kernel_rfl) (by simp) ?_
       refine AllReadyH.cons rfl (fun K hK=>?_) AllReadyH.nil
       go_simp
       refine hK.out _ _ (KE.out _ (Kept.alloc k10 _)) (fun hHeld=>?_)
       clear hK K
       refine wpAnyH_ready (rs:=[13]) (by kernel_rfl) (by simp) ?_
       refine AllReadyH.cons rfl (fun K hK=>?_) AllReadyH.nil
       refine step_rw (w0:=w10) (by rfl) _ _ (by rfl) we.heap.size j us (.slice lo j lc) (by rfl) ((Kept.refl _ w10).alloc _) (HRW.out _ k10) (.int .i64 H[j].1) (.slice xo H[j].2.1.length xc) (.slice zo M zc) w10.heap.size (by rfl) (heap_alloc_new w10 _) (by rfl) (by rfl) (by rfl) hz10 (by omega) ?_
       intro g cap w11 r11 k11
       obtain ⟨⟨y1,y2⟩,FF⟩:=FIN.out w10 zo zc g cap w11 k10 a10.out r11 k11
       obtain ⟨e11,f11⟩:=FS.out w10 w11 (.slice (some ⟨g,0,none⟩) (j+1) cap) k10 k11
       refine hK.out _ _ e11 (fun hHeld=>?_)
       clear hK K
       refine wpAnyH_take (i:=14) (v:=.pointer (some ⟨kb,2,none⟩)) rfl (by kernel_rfl) (by kernel_rfl) (by kernel_rfl) (fun _ _ _ h=>h) (.inl ⟨rfl,fun w' hS=>by simp [go_sem]⟩) hHeld ?_
       refine wpAnyH_ready (rs:=[15]) (by kernel_rfl) (by simp) ?_
       refine AllReadyH.cons rfl (fun K hK=>?_) AllReadyH.nil
       go_simp
       refine hK.out _ _ f11 (fun hHeld=>?_)
       clear hK K
       refine wpAnyH_done (by kernel_rfl) ?_ _
       go_wp2_with fail
       obtain ⟨us', z1,z2,z3,z4,z5⟩:=FF.out
       exact ⟨⟨j+1,_,us', by omega,by go_num,z1,z2,z3,z4,z5⟩,by simp [intOf];omega⟩
      ·refine step_callx rfl (CRH.out _ WD) (by simp [go_sem]) ?_
       rintro e w10 ⟨zo,zc,rfl,a10,k10⟩
       refine ⟨_,rfl,?_⟩
       obtain ⟨⟨c0,_⟩,c2,c3,c4,_⟩:=CELLS.out _ k10
       obtain ⟨⟨d0,_⟩,_⟩:=CELLS.out _ (k10.alloc (.cells #[.int .i64 H[j].1,.slice xo H[j].2.1.length xc,.slice zo M zc] 308))
       have hz10:=hz9.out _ k10
       refine hK.out _ _ (KE.out _ k10) (fun hHeld=>?_)
       clear hK K
       refine wpAnyH_take (i:=11) (v:=.agg #[.int .i64 H[j].1,.slice xo H[j].2.1.length xc,.slice zo M zc]) rfl (by kernel_rfl) (by kernel_rfl) (by kernel_rfl) (fun _ _ _ h=>h) (.inl ⟨rfl,fun w' hS=>by simp [go_sem]⟩) hHeld ?_
       refine wpAnyH_ready (rs:=[1,12]) (by kernel_rfl) (by simp) ?_
       refine AllReadyH.cons rfl (fun K hK=>?_) (AllReadyH.cons rfl (fun K hK=>?_) AllReadyH.nil)
       ·go_simp
        refine hK.out _ _ hHeld (fun hHeld=>?_)
        clear hK K
        refine wpAnyH_ready (rs:=[12]) (by kernel_rfl) (by simp) ?_
        refine AllReadyH.cons rfl (fun K hK=>?_) AllReadyH.nil
        go_simp
        refine hK.out _ _ (KE.out _ (Kept.alloc k10 _)) (fun hHeld=>?_)
        clear hK K
        refine wpAnyH_ready (rs:=[13]) (by kernel_rfl) (by simp) ?_
        refine AllReadyH.cons rfl (fun K hK=>?_) AllReadyH.nil
        refine step_rw (w0:=w10) (by rfl) _ _ (by rfl) we.heap.size j us (.slice lo j lc) (by rfl) ((Kept.refl _ w10).alloc _) (HRW.out _ k10) (.int .i64 H[j].1) (.slice xo H[j].2.1.length xc) (.slice zo M zc) w10.heap.size (by rfl) (heap_alloc_new w10 _) (by rfl) (by rfl) (by rfl) hz10 (by omega) ?_
        intro g cap w11 r11 k11
        obtain ⟨⟨y1,y2⟩,FF⟩:=FIN.out w10 zo zc g cap w11 k10 a10.out r11 k11
        obtain ⟨e11,f11⟩:=FS.out w10 w11 (.slice (some ⟨g,0,none⟩) (j+1) cap) k10 k11
        refine hK.out _ _ e11 (fun hHeld=>?_)
        clear hK K
        refine wpAnyH_take (i:=14) (v:=.pointer (some ⟨kb,2,none⟩)) rfl (by kernel_rfl) (by kernel_rfl) (by kernel_rfl) (fun _ _ _ h=>h) (.inl ⟨rfl,fun w' hS=>by simp [go_sem]⟩) hHeld ?_
        refine wpAnyH_ready (rs:=[15]) (by kernel_rfl) (by simp) ?_
        refine AllReadyH.cons rfl (fun K hK=>?_) AllReadyH.nil
        go_simp
        refine hK.out _ _ f11 (fun hHeld=>?_)
        clear hK K
        refine wpAnyH_done (by kernel_rfl) ?_ _
        go_wp2_with fail
        obtain ⟨us', z1,z2,z3,z4,z5⟩:=FF.out
        exact ⟨⟨j+1,_,us', by omega,by go_num,z1,z2,z3,z4,z5⟩,by simp [intOf];omega⟩
       ·go_simp
        refine hK.out _ _ (KE.out _ (Kept.alloc k10 _)) (fun hHeld=>?_)
        clear hK K
        refine wpAnyH_ready (rs:=[1]) (by kernel_rfl) (by simp) ?_
        refine AllReadyH.cons rfl (fun K hK=>?_) AllReadyH.nil
        go_simp
        refine hK.out _ _ hHeld (fun hHeld=>?_)
        clear hK K
        refine wpAnyH_ready (rs:=[13]) (by kernel_rfl) (by simp) ?_
        refine AllReadyH.cons rfl (fun K hK=>?_) AllReadyH.nil
        refine step_rw (w0:=w10) (by rfl) _ _ (by rfl) we.heap.size j us (.slice lo j lc) (by rfl) ((Kept.refl _ w10).alloc _) (HRW.out _ k10) (.int .i64 H[j].1) (.slice xo H[j].2.1.length xc) (.slice zo M zc) w10.heap.size (by rfl) (heap_alloc_new w10 _) (by rfl) (by rfl) (by rfl) hz10 (by omega) ?_
        intro g cap w11 r11 k11
        obtain ⟨⟨y1,y2⟩,FF⟩:=FIN.out w10 zo zc g cap w11 k10 a10.out r11 k11
        obtain ⟨e11,f11⟩:=FS.out w10 w11 (.slice (some ⟨g,0,none⟩) (j+1) cap) k10 k11
        refine hK.out _ _ e11 (fun hHeld=>?_)
        clear hK K
        refine wpAnyH_take (i:=14) (v:=.pointer (some ⟨kb,2,none⟩)) rfl (by kernel_rfl) (by kernel_rfl) (by kernel_rfl) (fun _ _ _ h=>h) (.inl ⟨rfl,fun w' hS=>by simp [go_sem]⟩) hHeld ?_
        refine wpAnyH_ready (rs:=[15]) (by kernel_rfl) (by simp) ?_
        refine AllReadyH.cons rfl (fun K hK=>?_) AllReadyH.nil
        go_simp
        refine hK.out _ _ f11 (fun hHeld=>?_)
        clear hK K
        refine wpAnyH_done (by kernel_rfl) ?_ _
        go_wp2_with fail
        obtain ⟨us', z1,z2,z3,z4,z5⟩:=FF.out
        exact ⟨⟨j+1,_,us', by omega,by go_num,z1,z2,z3,z4,z5⟩,by simp [intOf];omega⟩
     ·obtain rfl:j=H.length:=by omega
      have hN' := hN.out
      have rs:=RS.out wr hw
      have n0:=cellAt hN' 0
      have n1:=cellAt hN' 1
      have n2:=cellAt hN' 2
      have q0:=cellAt rs 0
      have q1:=cellAt rs 1
      have q2:=cellAt rs 2
      have f0:=frozenAt rs 0
      have f1:=frozenAt rs 1
      have f2:=frozenAt rs 2
      simp only [List.getElem?_toArray,List.getElem?_cons_zero,List.getElem?_cons_succ] at n0 n1 n2 q0 q1 q2
      have FIN:Hid (KidOut w L bs P c s H (.returned (.agg #[.pointer (some ⟨bs,0,none⟩),.slice vo KPL.length vc,.slice lo H.length lc])) (((wr.setCell ⟨w.heap.size+1,0,none⟩ (.pointer (some ⟨bs,0,none⟩))).setCell ⟨w.heap.size+1,1,none⟩ (.slice vo KPL.length vc)).setCell ⟨w.heap.size+1,2,none⟩ (.slice lo H.length lc))):=by
       have kk:Kept (fun q=>q=w.heap.size+1) wr (((wr.setCell ⟨w.heap.size+1,0,none⟩ (.pointer (some ⟨bs,0,none⟩))).setCell ⟨w.heap.size+1,1,none⟩ (.slice vo KPL.length vc)).setCell ⟨w.heap.size+1,2,none⟩ (.slice lo H.length lc)):=by
        have k1:=Kept.setCell (p:=⟨w.heap.size+1,0,none⟩) (Kept.refl (fun q=>q=w.heap.size+1) wr) (fun _=>rfl) (.pointer (some ⟨bs,0,none⟩))
        have k2:=Kept.setCell (p:=⟨w.heap.size+1,1,none⟩) k1 (fun _=>rfl) (.slice vo KPL.length vc)
        exact Kept.setCell (p:=⟨w.heap.size+1,2,none⟩) k2 (fun _=>rfl) (.slice lo H.length lc)
       have hus' := hus.out
       rw [List.take_length] at hus'
       obtain ⟨ro,rc,e1,r1,r2,_⟩:=row_rows hr.out hus'
       rw [List.length_map] at e1
       have hpsr:=HPS.out.keptN hwe (fun q e=>by subst e;exact ⟨_,HN0.out⟩)
       have nb:∀ q,q=w.heap.size+1→NdB wr q:=fun q e=>by subst e;exact ⟨_,rs⟩
       refine ⟨vo,vc,ro,rc,by rw [HKP.out,← e1],?_,HVN.out.1,?_,r1.keptN kk nb,r2,Kept.trans (KW.trans' hw) kk (fun i hi e=>by omega)⟩
       ·rw [HKP.out];exact hpsr.keptN kk nb
       ·rw [HKP.out];exact HVN.out.2
      have s3:=setAt (setAt (setAt rs 0 (.pointer (some ⟨bs,0,none⟩))) 1 (.slice vo KPL.length vc)) 2 (.slice lo H.length lc)
      have GG:Hid ((((wr.setCell ⟨w.heap.size+1,0,none⟩ (.pointer (some ⟨bs,0,none⟩))).setCell ⟨w.heap.size+1,1,none⟩ (.slice vo KPL.length vc)).setCell ⟨w.heap.size+1,2,none⟩ (.slice lo H.length lc)).cell? ⟨w.heap.size+1,0,none⟩=some (.pointer (some ⟨bs,0,none⟩))∧(((wr.setCell ⟨w.heap.size+1,0,none⟩ (.pointer (some ⟨bs,0,none⟩))).setCell ⟨w.heap.size+1,1,none⟩ (.slice vo KPL.length vc)).setCell ⟨w.heap.size+1,2,none⟩ (.slice lo H.length lc)).cell? ⟨w.heap.size+1,1,none⟩=some (.slice vo KPL.length vc)∧(((wr.setCell ⟨w.heap.size+1,0,none⟩ (.pointer (some ⟨bs,0,none⟩))).setCell ⟨w.heap.size+1,1,none⟩ (.slice vo KPL.length vc)).setCell ⟨w.heap.size+1,2,none⟩ (.slice lo H.length lc)).cell? ⟨w.heap.size+1,2,none⟩=some (.slice lo H.length lc)):=⟨cellAt s3 0,cellAt s3 1,cellAt s3 2⟩
      clear hN hr hus hN' rs hwe s3
      go_wp2
      obtain ⟨g0,g1,g2⟩:=GG.out
      exact bodyPost_ret (v:=.agg #[.pointer (some ⟨bs,0,none⟩),.slice vo KPL.length vc,.slice lo H.length lc]) (by simp [results,Tryz.results182,go_sem,g0,g1,g2]) rfl FIN.out
end Go.Proofs.YtflcpepjmonlpaaGreatDoor
