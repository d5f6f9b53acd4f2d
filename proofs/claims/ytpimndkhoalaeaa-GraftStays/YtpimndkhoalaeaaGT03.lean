import Derived.Test.YtpimndkhoalaeaaGT01
import Derived.Test.YtpimndkhoalaeaaGT02
import Derived.OwnWalk
import Derived.Deep.RegionHeld3
import Derived.BigQuiet
import Derived.RangeFuncNested
import Derived.RangeFuncLeaves
import Derived.RangeFuncBox
namespace Go.Proofs.Ytpimndkhoalaeaa
set_option maxRecDepth 100000
set_option linter.unusedVariables false
open Go.RowKit
def mayB (n:Nat) (x:Nd):Bool:=
 decide (0≤x.1) && decide (x.2.1.length≤6) && decide (0≤x.2.2.1) && decide (x.2.2.1≤2) && x.2.1.all (fun z=>decide (0≤z) && decide (z<(n:Int))) &&
  (if x.2.2.2.1=true then decide (0≤x.2.2.2.2) && decide (x.2.2.2.2<(n:Int)) && decide (x.1=0) && decide (x.2.2.1=0) && decide (x.2.1.length=0) else decide (x.2.2.2.2=0))
theorem may_facts {n:Nat} {x:Nd} (h:mayB n x=true):0≤x.1∧x.2.1.length≤6∧0≤x.2.2.1∧x.2.2.1≤2∧(∀ z∈x.2.1,0≤z∧z<(n:Int))∧(x.2.2.2.1=true→0≤x.2.2.2.2∧x.2.2.2.2<(n:Int)∧x.1=0∧x.2.2.1=0∧x.2.1=[])∧(x.2.2.2.1=false→x.2.2.2.2=0):=by
 unfold mayB at h
 cases hp:x.2.2.2.1
 ·simp [hp] at h
  refine ⟨h.1.1.1.1.1,h.1.1.1.1.2,h.1.1.1.2,h.1.1.2,h.1.2,by simp,fun _=>h.2⟩
 ·simp [hp] at h
  refine ⟨h.1.1.1.1.1,h.1.1.1.1.2,h.1.1.1.2,h.1.1.2,h.1.2,fun _=>⟨h.2.1.1.1.1,h.2.1.1.1.2,h.2.1.1.2,h.2.1.2,h.2.2⟩,by simp⟩
theorem may_down {n:Nat} {x:Nd} (h:mayB n x=true):∀ z∈downL x,0≤z∧z<(n:Int):=by
 obtain ⟨_,_,_,_,h5,h6,_⟩:=may_facts h
 intro z hz
 unfold downL at hz
 split at hz
 ·rename_i hp
  simp at hz
  subst hz
  exact ⟨(h6 hp).1,(h6 hp).2.1⟩
 ·exact h5 z hz
theorem may_more {n m:Nat} {x:Nd} (h:mayB n x=true) (hn:n≤m):mayB m x=true:=by
 obtain ⟨h1,h2,h3,h4,h5,h6,h7⟩:=may_facts h
 unfold mayB
 have h8:x.2.1.all (fun z=>decide (0≤z) && decide (z<(m:Int)))=true:=by
  rw [List.all_eq_true]
  intro z hz
  have:=h5 z hz
  simp;omega
 cases hp:x.2.2.2.1
 ·simp [h1,h2,h3,h4,h8,h7 hp]
 ·obtain ⟨a,b,c,d,e⟩:=h6 hp
  simp [a,c,d,e]
  omega
theorem inl_of_may {l:List Nd} (h:∀ x∈l,mayB l.length x=true):InL l:=fun i hi z hz=>may_down (h _ (List.getElem_mem hi)) z hz
def NdC (B:Nat→Prop) (w:World) (b off:Nat) (x:Nd):Prop:=
 ∃ ao ac,w.cell? ⟨b,off,none⟩=some (.int .i64 x.1)∧w.cell? ⟨b,off+1,none⟩=some (.slice ao x.2.1.length ac)∧w.cell? ⟨b,off+2,none⟩=some (.int .i64 x.2.2.1)∧w.cell? ⟨b,off+3,none⟩=some (.bool x.2.2.2.1)∧w.cell? ⟨b,off+4,none⟩=some (.int .i64 x.2.2.2.2)∧ArgT w ao x.2.1 ac∧∀ a,ao=some a→B a.block
def NotI (w:World) (k:Nat):Prop:=∀ cur,w.heap[k]? ≠ some (.cells cur 3 (0,0))
theorem ArgT.kept' {w w' : World} {ao:Option Addr} {xs:List Int} {cap:Nat} {S:Nat→Prop} (h:ArgT w ao xs cap) (hk:Kept S w w') (hS:∀ a,ao=some a→¬ S a.block):ArgT w' ao xs cap:=by
 refine ⟨⟨h.1.at'.kept hk hS,h.1.cap', h.1.nil,h.1.size⟩,fun a e=>?_⟩
 obtain ⟨cur,hc⟩:=h.2 a e
 exact ⟨cur,hk.at hc (hS a e)⟩
theorem ArgT.lt {w:World} {ao:Option Addr} {xs:List Int} {cap:Nat} (h:ArgT w ao xs cap) {a:Addr} (e:ao=some a):a.block<w.heap.size:=by
 obtain ⟨cur,hc⟩:=h.2 a e
 exact lt_of_at hc
theorem NdC.kept {B S:Nat→Prop} {w w' : World} {b off:Nat} {x:Nd} (h:NdC B w b off x) (hb:b<w.heap.size) (hk:Kept S w w') (nb:¬ S b) (hS:∀ k,B k→S k→NotI w k):NdC B w' b off x:=by
 obtain ⟨ao,ac,h0,h1,h2,h3,h4,h5,h6⟩:=h
 have t:∀ o,w'.cell? ⟨b,o,none⟩=w.cell? ⟨b,o,none⟩:=fun o=>hk.cell (p:=⟨b,o,none⟩) hb nb
 refine ⟨ao,ac,(t _).trans h0,(t _).trans h1,(t _).trans h2,(t _).trans h3,(t _).trans h4,h5.kept' hk (fun a e s=>?_),h6⟩
 obtain ⟨cur,hc⟩:=h5.2 a e
 exact hS _ (h6 a e) s cur hc
theorem NdC.mono {B B' : Nat→Prop} {w:World} {b off:Nat} {x:Nd} (h:NdC B w b off x) (hB:∀ k,k<w.heap.size→(∃ cur,w.heap[k]? = some (.cells cur 3 (0,0)))→B k→B' k):NdC B' w b off x:=by
 obtain ⟨ao,ac,h0,h1,h2,h3,h4,h5,h6⟩:=h
 exact ⟨ao,ac,h0,h1,h2,h3,h4,h5,fun a e=>hB _ (h5.lt e) (h5.2 a e) (h6 a e)⟩
structure HpB (B:Nat→Prop) (w:World) (h g room:Nat) (l:List Nd):Prop where
 box:w.heap[h]? = some (.cells #[.slice (some ⟨g,0,none⟩) room room,.int .i64 (l.length:Int)] 117 (0,0))
 blk:∃ cs,w.heap[g]? = some (.cells cs 71 (0,0))∧cs.size=room * 5
 rm1:1≤room
 rm2:room≤4000
 le:l.length≤room
 each:∀ i (hi:i<l.length),NdC B w g (i * 5) l[i]
 may:∀ x∈l,mayB l.length x=true
 ac:Ac l
theorem HpB.inl {B:Nat→Prop} {w:World} {h g room:Nat} {l:List Nd} (p:HpB B w h g room l):InL l:=inl_of_may p.may
theorem HpB.ne {B:Nat→Prop} {w:World} {h g room:Nat} {l:List Nd} (p:HpB B w h g room l):h≠g:=fun e=>by
 obtain ⟨cs,h1,_⟩:=p.blk
 rw [← e,p.box] at h1
 cases h1
theorem HpB.ltH {B:Nat→Prop} {w:World} {h g room:Nat} {l:List Nd} (p:HpB B w h g room l):h<w.heap.size:=lt_of_at p.box
theorem HpB.ltG {B:Nat→Prop} {w:World} {h g room:Nat} {l:List Nd} (p:HpB B w h g room l):g<w.heap.size:=by
 obtain ⟨cs,h1,_⟩:=p.blk
 exact lt_of_at h1
theorem HpB.kept {B S:Nat→Prop} {w w' : World} {h g room:Nat} {l:List Nd} (p:HpB B w h g room l) (hk:Kept S w w') (n1:¬ S h) (n2:¬ S g) (hS:∀ k,B k→S k→NotI w k):HpB B w' h g room l:=by
 refine ⟨hk.at p.box n1,?_,p.rm1,p.rm2,p.le,fun i hi=>(p.each i hi).kept p.ltG hk n2 hS,p.may,p.ac⟩
 obtain ⟨cs,h1,h2⟩:=p.blk
 exact ⟨cs,hk.at h1 n2,h2⟩
theorem HpB.same {B:Nat→Prop} {w w' : World} {h g room:Nat} {l:List Nd} (p:HpB B w h g room l) (hk:Same0 w w'):HpB B w' h g room l:=p.kept hk (fun f=>f) (fun f=>f) (fun _ _ f=>f.elim)
theorem HpB.mono {B B' : Nat→Prop} {w:World} {h g room:Nat} {l:List Nd} (p:HpB B w h g room l) (hB:∀ k,k<w.heap.size→(∃ cur,w.heap[k]? = some (.cells cur 3 (0,0)))→B k→B' k):HpB B' w h g room l:=
 ⟨p.box,p.blk,p.rm1,p.rm2,p.le,fun i hi=>(p.each i hi).mono hB,p.may,p.ac⟩
theorem HpB.cells {B:Nat→Prop} {w:World} {h g room:Nat} {l:List Nd} (p:HpB B w h g room l):w.cell? ⟨h,0,none⟩=some (.slice (some ⟨g,0,none⟩) room room)∧w.cell? ⟨h,1,none⟩=some (.int .i64 (l.length:Int)):=⟨cellAt p.box 0,cellAt p.box 1⟩
theorem HpB.free {B:Nat→Prop} {w:World} {h g room:Nat} {l:List Nd} (p:HpB B w h g room l):(∀ o,w.frozen? ⟨h,o,none⟩=false)∧∀ o,w.frozen? ⟨g,o,none⟩=false:=by
 obtain ⟨cs,h1,_⟩:=p.blk
 exact ⟨fun o=>frozenAt p.box o,fun o=>frozenAt h1 o⟩
theorem HpB.there {B:Nat→Prop} {w:World} {h g room:Nat} {l:List Nd} (p:HpB B w h g room l) {i:Nat} (hi:i<room):∃ u0 u1 u2 u3 u4,w.cell? ⟨g,i * 5,none⟩=some u0∧w.cell? ⟨g,i * 5+1,none⟩=some u1∧w.cell? ⟨g,i * 5+2,none⟩=some u2∧w.cell? ⟨g,i * 5+3,none⟩=some u3∧w.cell? ⟨g,i * 5+4,none⟩=some u4:=by
 obtain ⟨cs,h1,h2⟩:=p.blk
 have t:∀ o,o<cs.size→w.cell? ⟨g,o,none⟩=some cs[o]! := fun o ho=>by rw [cellAt h1];simp [ho]
 exact ⟨_,_,_,_,_,t _ (by omega),t _ (by omega),t _ (by omega),t _ (by omega),t _ (by omega)⟩
theorem box5 {w:World} {b:Nat} {v0 v1 v2 v3 v4:Value} {t:TypeId} (h:w.heap[b]? = some (.cells #[v0,v1,v2,v3,v4] t (0,0))):w.cell? ⟨b,0,none⟩=some v0∧w.cell? ⟨b,1,none⟩=some v1∧w.cell? ⟨b,2,none⟩=some v2∧w.cell? ⟨b,3,none⟩=some v3∧w.cell? ⟨b,4,none⟩=some v4:=
 ⟨cellAt h 0,cellAt h 1,cellAt h 2,cellAt h 3,cellAt h 4⟩
theorem free5 {w:World} {b:Nat} {cs:Array Value} {t:TypeId} (h:w.heap[b]? = some (.cells cs t (0,0))):w.frozen? ⟨b,0,none⟩=false∧w.frozen? ⟨b,1,none⟩=false∧w.frozen? ⟨b,2,none⟩=false∧w.frozen? ⟨b,3,none⟩=false∧w.frozen? ⟨b,4,none⟩=false:=
 ⟨frozenAt h 0,frozenAt h 1,frozenAt h 2,frozenAt h 3,frozenAt h 4⟩
def put5 (w:World) (g off:Nat) (v0 v1 v2 v3 v4:Value):World:=
 ((((w.setCell ⟨g,off,none⟩ v0).setCell ⟨g,off+1,none⟩ v1).setCell ⟨g,off+2,none⟩ v2).setCell ⟨g,off+3,none⟩ v3).setCell ⟨g,off+4,none⟩ v4
theorem put5_at {w:World} {g off:Nat} {v0 v1 v2 v3 v4:Value} {cs:Array Value} {t:TypeId} {fr:Nat × Nat} (h:w.heap[g]? = some (.cells cs t fr)):(put5 w g off v0 v1 v2 v3 v4).heap[g]? = some (.cells (((((cs.setIfInBounds off v0).setIfInBounds (off+1) v1).setIfInBounds (off+2) v2).setIfInBounds (off+3) v3).setIfInBounds (off+4) v4) t fr):=
 setAt (setAt (setAt (setAt (setAt h _ _) _ _) _ _) _ _) _ _
theorem put5_kept (w:World) (g off:Nat) (v0 v1 v2 v3 v4:Value):Kept (fun k=>k=g) w (put5 w g off v0 v1 v2 v3 v4):=by
 have t:∀ (w' : World) (o:Nat) (v:Value),Kept (fun k=>k=g) w w' → Kept (fun k=>k=g) w (w'.setCell ⟨g,o,none⟩ v):=fun w' o v h=>Kept.setCell (S:=fun k=>k=g) h (p:=⟨g,o,none⟩) (fun _=>rfl) v
 exact t _ _ _ (t _ _ _ (t _ _ _ (t _ _ _ (t _ _ _ (Kept.refl _ w)))))
theorem put5_new {w:World} {g off:Nat} {v0 v1 v2 v3 v4:Value} {cs:Array Value} {t:TypeId} {fr:Nat × Nat} (h:w.heap[g]? = some (.cells cs t fr)) (hs:off+5≤cs.size):(put5 w g off v0 v1 v2 v3 v4).cell? ⟨g,off,none⟩=some v0∧(put5 w g off v0 v1 v2 v3 v4).cell? ⟨g,off+1,none⟩=some v1∧(put5 w g off v0 v1 v2 v3 v4).cell? ⟨g,off+2,none⟩=some v2∧(put5 w g off v0 v1 v2 v3 v4).cell? ⟨g,off+3,none⟩=some v3∧(put5 w g off v0 v1 v2 v3 v4).cell? ⟨g,off+4,none⟩=some v4:=by
 have q:=put5_at (v0:=v0) (v1:=v1) (v2:=v2) (v3:=v3) (v4:=v4) (off:=off) h
 refine ⟨?_,?_,?_,?_,?_⟩ <;> rw [cellAt q] <;> simp [Array.getElem?_setIfInBounds] <;> omega
theorem put5_old {w:World} {g off:Nat} {v0 v1 v2 v3 v4:Value} {cs:Array Value} {t:TypeId} {fr:Nat × Nat} (h:w.heap[g]? = some (.cells cs t fr)) {o:Nat} (ho:o<off∨off+5≤o):(put5 w g off v0 v1 v2 v3 v4).cell? ⟨g,o,none⟩=w.cell? ⟨g,o,none⟩:=by
 have q:=put5_at (v0:=v0) (v1:=v1) (v2:=v2) (v3:=v3) (v4:=v4) (off:=off) h
 rw [cellAt q,cellAt h,Array.getElem?_setIfInBounds,if_neg (by omega),Array.getElem?_setIfInBounds,if_neg (by omega),Array.getElem?_setIfInBounds,if_neg (by omega),Array.getElem?_setIfInBounds,if_neg (by omega),Array.getElem?_setIfInBounds,if_neg (by omega)]
theorem put5_nodes {B B' : Nat→Prop} {w:World} {g room:Nat} {l:List Nd} (hb:∃ cs,w.heap[g]? = some (.cells cs 71 (0,0))∧cs.size=room * 5) (hc:∀ i (hi:i<l.length),NdC B w g (i * 5) l[i]) {i:Nat} (hi:i<room) {x:Nd} {ao:Option Addr} {ac:Nat} (ha:ArgT w ao x.2.1 ac) (hB:∀ a,ao=some a→B' a.block) (hBB:∀ k,B k→B' k) :
  let w' := put5 w g (i * 5) (.int .i64 x.1) (.slice ao x.2.1.length ac) (.int .i64 x.2.2.1) (.bool x.2.2.2.1) (.int .i64 x.2.2.2.2)
  NdC B' w' g (i * 5) x∧(∃ cs,w'.heap[g]? = some (.cells cs 71 (0,0))∧cs.size=room * 5)∧∀ j (hj:j<l.length),j≠i→NdC B' w' g (j * 5) l[j]:=by
 obtain ⟨cs,h1,h2⟩:=hb
 have hk:=put5_kept w g (i * 5) (.int .i64 x.1) (.slice ao x.2.1.length ac) (.int .i64 x.2.2.1) (.bool x.2.2.2.1) (.int .i64 x.2.2.2.2)
 have gi:∀ k,k=g→NotI w k:=fun k e cur h=>by rw [e,h1] at h;cases h
 have ka:∀ {ao:Option Addr} {xs:List Int} {ac:Nat},ArgT w ao xs ac→ArgT (put5 w g (i * 5) (.int .i64 x.1) (.slice ao x.2.1.length ac) (.int .i64 x.2.2.1) (.bool x.2.2.2.1) (.int .i64 x.2.2.2.2)) ao xs ac:=fun h=>h.kept (put5_kept _ _ _ _ _ _ _ _) (fun k e=>gi k e)
 refine ⟨?_,?_,fun j hj hne=>?_⟩
 ·obtain ⟨q0,q1,q2,q3,q4⟩:=put5_new (v0:=.int .i64 x.1) (v1:=.slice ao x.2.1.length ac) (v2:=.int .i64 x.2.2.1) (v3:=.bool x.2.2.2.1) (v4:=.int .i64 x.2.2.2.2) h1 (show i * 5+5≤cs.size by omega)
  exact ⟨ao,ac,q0,q1,q2,q3,q4,ha.kept hk gi,hB⟩
 ·exact ⟨_,put5_at h1,by simpa using h2⟩
 ·obtain ⟨bo,bc,q0,q1,q2,q3,q4,q5,q6⟩:=hc j hj
  have t:=fun {o:Nat} (ho:o<i * 5∨i * 5+5≤o)=>put5_old (v0:=.int .i64 x.1) (v1:=.slice ao x.2.1.length ac) (v2:=.int .i64 x.2.2.1) (v3:=.bool x.2.2.2.1) (v4:=.int .i64 x.2.2.2.2) h1 ho
  exact ⟨bo,bc,(t (by omega)).trans q0,(t (by omega)).trans q1,(t (by omega)).trans q2,(t (by omega)).trans q3,(t (by omega)).trans q4,q5.kept hk gi,fun a e=>hBB _ (q6 a e)⟩
end Go.Proofs.Ytpimndkhoalaeaa
namespace Go.Proofs.Ytpimndkhoalaeaa
set_option maxRecDepth 100000
set_option linter.unusedVariables false
open Go.RowKit
attribute [local go_sem ↓] Go.wp_at_zero Go.wp_at_succ
def insB (n:Int) (xs:List Int):Bool:=xs.all (fun z=>decide (0≤z) && decide (z<n))
theorem insB_iff {n:Int} {xs:List Int}:insB n xs=true ↔ ∀ z∈xs,0≤z∧z<n:=by
 unfold insB;simp [List.all_eq_true]
theorem insB_no {n:Int} {xs:List Int} {k:Nat} (hk:k<xs.length) (h:¬ (0≤xs[k]∧xs[k]<n)):insB n xs=false:=by
 cases e:insB n xs
 ·rfl
 ·exact absurd (insB_iff.1 e _ (List.getElem_mem hk)) h
set_option maxHeartbeats 1000000 in
theorem inside_any {w:World} {ao:Option Addr} {xs:List Int} (cap:Nat) (hx:IntsAt w ao xs) (hm:xs.length≤1000) (n:Int) :
  Calls Try.prog 58 #[.int .i64 n,.slice ao xs.length cap] w fun e w' => e=.returned (.bool (insB n xs))∧w' = w:=by
 have H1:Hid (∀ k (hk:k<xs.length),¬ (0≤xs[k]∧xs[k]<n)→insB n xs=false):=fun k hk h=>insB_no hk h
 go_enter Try.func58,Try.ntmps58
 go_wp2
 go_loop [9] (fun i=>∃ k:Nat,k≤xs.length∧i=.int .i64 k∧Hid (∀ j (hj:j<xs.length),j<k→0≤xs[j]∧xs[j]<n)) (fun i=>xs.length-(intOf i).toNat)
 case atStart=>exact ⟨0,Nat.zero_le _,rfl,fun j _ hj=>absurd hj (Nat.not_lt_zero _)⟩
 case round=>
  obtain ⟨k,hk,rfl,hall⟩:=hrel
  by_cases hlt:k<xs.length
  ·obtain ⟨b,off,rfl,hb,hc⟩:=hx.get hlt
   have i1:(0:Int)≤(k:Int):=by omega
   have i2:(k:Int)<(xs.length:Int):=by omega
   clear hx
   by_cases h1:xs[k]<0
   ·have H2:Hid (insB n xs=false):=H1.out k hlt (by omega)
    clear H1
    go_wp2
    go_ret
    exact ⟨ret_bool H2.out.symm,rfl⟩
   ·by_cases h2:n≤xs[k]
    ·have H2:Hid (insB n xs=false):=H1.out k hlt (by omega)
     clear H1
     go_wp2
     go_ret
     exact ⟨ret_bool H2.out.symm,rfl⟩
    ·go_wp2
     go_round
     case rel=>exact ⟨k+1,by omega,by go_num,fun j hj hjk=>by
      by_cases e:j=k
      ·subst e;omega
      ·exact hall.out j hj (by omega)⟩
     case measure=>simp [intOf];omega
  ·obtain rfl:k=xs.length:=by omega
   have H2:Hid (insB n xs=true):=insB_iff.2 (fun z hz=>by
    obtain ⟨j,hj,rfl⟩:=List.mem_iff_getElem.1 hz
    exact hall.out j hj hj)
   clear hall H1
   go_wp2
   go_ret
   exact ⟨ret_bool H2.out.symm,rfl⟩
def refE (n:Int) (xs:List Int):Int:=if insB n xs=true then 0 else 112
set_option maxHeartbeats 1000000 in
theorem refusal_hp {B:Nat→Prop} {w:World} {h g room:Nat} {l:List Nd} (p:HpB B w h g room l) {ao:Option Addr} {xs:List Int} (cap:Nat) (hx:IntsAt w ao xs) (hm:xs.length≤1000) :
  Calls Try.prog 69 #[.pointer (some ⟨h,0,none⟩),.slice ao xs.length cap] w fun e w' => e=.returned (.int .i64 (refE (l.length:Int) xs))∧w' = w:=by
 have C:=inside_any cap hx hm (l.length:Int)
 obtain ⟨c0,c1⟩:=p.cells
 clear p hx
 cases hi:insB (l.length:Int) xs
 ·have H:Hid (refE (l.length:Int) xs=112):=by show _=_;rw [refE,hi];rfl
  rw [hi] at C
  go_enter Try.func69,Try.ntmps69
  go_wp2_with (first | (go_at_call 58;refine C.mono ?_;rintro e w' ⟨rfl,rfl⟩))
  go_ret
  exact ⟨ret_int H.out.symm,rfl⟩
 ·have H:Hid (refE (l.length:Int) xs=0):=by show _=_;rw [refE,hi];rfl
  rw [hi] at C
  go_enter Try.func69,Try.ntmps69
  go_wp2_with (first | (go_at_call 58;refine C.mono ?_;rintro e w' ⟨rfl,rfl⟩))
  go_ret
  exact ⟨ret_int H.out.symm,rfl⟩
theorem set6_kept (w:World) (a b:Nat) (v v0 v1 v2 v3 v4:Value):Kept (fun k=>k=a∨k=b) w (put5 (w.setCell ⟨a,1,none⟩ v) b 0 v0 v1 v2 v3 v4):=
 (Kept.setCell (S:=fun k=>k=a∨k=b) (Kept.refl _ w) (p:=⟨a,1,none⟩) (fun _=>.inl rfl) v).trans (put5_kept _ _ _ _ _ _ _ _) (fun _ _ e=>.inr e)
abbrev nodeV (x:Nd) (ao:Option Addr) (ac:Nat):Value:=.agg #[.int .i64 x.1,.slice ao x.2.1.length ac,.int .i64 x.2.2.1,.bool x.2.2.2.1,.int .i64 x.2.2.2.2]
set_option maxHeartbeats 1000000 in
theorem copied_any {w:World} {x:Nd} {ao:Option Addr} {ac:Nat} (hx:Arg w ao x.2.1 ac) (hm:x.2.1.length≤1000) :
  Calls Try.prog 59 #[nodeV x ao ac] w fun e w' => ∃ bo bc,e=.returned (nodeV x bo bc)∧ArgT w' bo x.2.1 bc∧(∀ a,bo=some a→w.heap.size≤a.block)∧Same0 w w' := by
 have k1:Same0 w (w.alloc (.cells #[.int .i64 x.1,.slice ao x.2.1.length ac,.int .i64 x.2.2.1,.bool x.2.2.2.1,.int .i64 x.2.2.2.2] 71)):=(Kept.refl _ w).alloc _
 have k2:Same0 w ((w.alloc (.cells #[.int .i64 x.1,.slice ao x.2.1.length ac,.int .i64 x.2.2.1,.bool x.2.2.2.1,.int .i64 x.2.2.2.2] 71)).alloc (.cells #[.int .i64 0,.slice none 0 0,.int .i64 0,.bool false,.int .i64 0] 71)):=k1.alloc _
 have C:=cloneI_any (cap:=ac) (show Arg _ ao x.2.1 ac from ⟨hx.at'.same k2,hx.cap', hx.nil,hx.size⟩)
 simp only [World.size_alloc] at C
 have hb1:((w.alloc (.cells #[.int .i64 x.1,.slice ao x.2.1.length ac,.int .i64 x.2.2.1,.bool x.2.2.2.1,.int .i64 x.2.2.2.2] 71)).alloc (.cells #[.int .i64 0,.slice none 0 0,.int .i64 0,.bool false,.int .i64 0] 71)).heap[w.heap.size]? = some (.cells #[.int .i64 x.1,.slice ao x.2.1.length ac,.int .i64 x.2.2.1,.bool x.2.2.2.1,.int .i64 x.2.2.2.2] 71 (0,0)):=(Below.heap_alloc _ _ _ (by simp)).trans (heap_alloc_new w _)
 have hb2:=heap_alloc_new (w.alloc (.cells #[.int .i64 x.1,.slice ao x.2.1.length ac,.int .i64 x.2.2.1,.bool x.2.2.2.1,.int .i64 x.2.2.2.2] 71)) (.cells #[.int .i64 0,.slice none 0 0,.int .i64 0,.bool false,.int .i64 0] 71)
 have HB:Hid (∀ ww,Same0 ((w.alloc (.cells #[.int .i64 x.1,.slice ao x.2.1.length ac,.int .i64 x.2.2.1,.bool x.2.2.2.1,.int .i64 x.2.2.2.2] 71)).alloc (.cells #[.int .i64 0,.slice none 0 0,.int .i64 0,.bool false,.int .i64 0] 71)) ww→ww.heap[w.heap.size]? = some (.cells #[.int .i64 x.1,.slice ao x.2.1.length ac,.int .i64 x.2.2.1,.bool x.2.2.2.1,.int .i64 x.2.2.2.2] 71 (0,0))∧ww.heap[w.heap.size+1]? = some (.cells #[.int .i64 0,.slice none 0 0,.int .i64 0,.bool false,.int .i64 0] 71 (0,0))):=fun ww hk=>⟨hk.at0 hb1,by have:=hk.at0 hb2;simpa using this⟩
 have HK:Hid (∀ ww,Same0 ((w.alloc (.cells #[.int .i64 x.1,.slice ao x.2.1.length ac,.int .i64 x.2.2.1,.bool x.2.2.2.1,.int .i64 x.2.2.2.2] 71)).alloc (.cells #[.int .i64 0,.slice none 0 0,.int .i64 0,.bool false,.int .i64 0] 71)) ww→Same0 w ww):=fun ww hk=>k2.trans' hk
 clear hb1 hb2 k1 k2 hx
 go_enter Try.func59,Try.ntmps59
 go_upto_region 2 with (first | (go_at_call 100;refine C.mono ?_;rintro e w1 ⟨v,rfl,hr,hk⟩;obtain ⟨bo,bc,rfl,ha,hbb⟩:=hr.arg (by omega);obtain ⟨q1,q2⟩:=HB.out w1 hk;obtain ⟨a0,a1,a2,a3,a4⟩:=box5 q1;obtain ⟨b0,b1,b2,b3,b4⟩:=box5 q2;obtain ⟨-,f1, -, -, -⟩:=free5 q1;obtain ⟨g0,g1,g2,g3,g4⟩:=free5 q2;clear q1 q2))
 go_wp2
 have K6:=set6_kept w1 w.heap.size (w.heap.size+1) (.slice bo x.2.1.length bc) (.int .i64 x.1) (.slice bo x.2.1.length bc) (.int .i64 x.2.2.1) (.bool x.2.2.2.1) (.int .i64 x.2.2.2.2)
 have R1:=ha.kept' K6 (fun a e s=>by have:=hbb a e;omega)
 have R2:Same0 w _:=(HK.out w1 hk).trans K6 (fun i hi e=>by omega)
 exact bodyPost_ret (v:=nodeV x bo bc) (by simp [results,Try.results59,go_sem,b0,b1,b2,b3,b4]) rfl ⟨bo,bc,rfl,R1,fun a e=>by have:=hbb a e;omega,R2⟩
theorem info_node:(Try.prog.info? 71).map (fun i=>(i.zero,i.size,i.bytes))=some (some (.agg #[.int .i64 0,.slice none 0 0,.int .i64 0,.bool false,.int .i64 0]),5,56):=by kernel_rfl
theorem Ac.nil:Ac []:=⟨fun _=>0,fun i j e=>absurd e.1 (Nat.not_lt_zero _)⟩
set_option maxHeartbeats 1000000 in
theorem hnew_yes (n:Nat) (w:World) (h1:1≤n) (h2:n≤4000):Calls Try.prog 14 #[.int .i64 (n:Int)] w fun e w' => ∃ h g,e=.returned (.tuple #[.pointer (some ⟨h,0,none⟩),.int .i64 0])∧HpB (fun _=>False) w' h g n []∧Same0 w w' ∧ w.heap.size≤h∧w.heap.size≤g:=by
 obtain ⟨i,hi,hz0,hz1,hz2⟩:=info_parts info_node
 have i1:(1:Int)≤(n:Int):=by omega
 have i2:(n:Int)≤4000:=by omega
 go_enter Try.func14,Try.ntmps14
 go_wp2_with (first | (at_make;refine wpList_make_full _ rfl _ _ 39 rfl w.heap.size 71 i _ 5 Try.underlying39 hi hz0 hz1 _ _ _ _ n rfl rfl rfl rfl (by rw [hz2];omega) (by unfold maxLen;omega) (Nat.le_refl _) ?_;intro w1 hown hgrow))
 go_ret2
 obtain ⟨hl,hr⟩:=hown
 rcases hr with ⟨e,h0⟩ | ⟨g,cap,cur,e,hb,hg,hle,hml,hsz,ht⟩
 ·cases e
 ·simp only [Value.slice.injEq,Option.some.injEq,Addr.mk.injEq,and_true,true_and] at e
  obtain ⟨rfl,rfl⟩:=e
  have K:Same0 w w1:=Same0.grown (Kept.refl _ w) hgrow
  refine ⟨w1.heap.size,w.heap.size,rfl,⟨heap_alloc_new w1 _,⟨cur,(Below.heap_alloc _ _ _ (lt_of_at hg)).trans hg,hsz⟩,h1,h2,Nat.zero_le _,fun i hi=>absurd hi (Nat.not_lt_zero _),fun x hx=>absurd hx (by simp),Ac.nil⟩,K.alloc _,K.size,Nat.le_refl _⟩
set_option maxHeartbeats 1000000 in
theorem room_any {B:Nat→Prop} {w:World} {h g room:Nat} {l:List Nd} (p:HpB B w h g room l):Calls Try.prog 75 #[.pointer (some ⟨h,0,none⟩)] w fun e w' => e=.returned (.int .i64 (room:Int))∧w' = w:=by
 obtain ⟨c0,c1⟩:=p.cells
 clear p
 go_enter Try.func75,Try.ntmps75
 go_wp2
 go_ret
 exact ⟨rfl,rfl⟩
set_option maxHeartbeats 1000000 in
theorem used_any {B:Nat→Prop} {w:World} {h g room:Nat} {l:List Nd} (p:HpB B w h g room l):Calls Try.prog 17 #[.pointer (some ⟨h,0,none⟩)] w fun e w' => e=.returned (.int .i64 (l.length:Int))∧w' = w:=by
 obtain ⟨c0,c1⟩:=p.cells
 clear p
 go_enter Try.func17,Try.ntmps17
 go_wp2
 go_ret
 exact ⟨rfl,rfl⟩
theorem ints_one (w:World) (z:Int):IntsAt (w.alloc (.cells #[.int .i64 z] 3)) (some ⟨w.heap.size,0,none⟩) [z]:=
 .inr ⟨w.heap.size,0,rfl,by simp,fun i hi=>by
  have hi' : i<1:=hi
  match i,hi' with
  | 0,_=>exact cellAt (heap_alloc_new w _) 0⟩
theorem refE_one {n:Nat} {a:Int} (h:0≤a∧a<(n:Int)):refE (n:Int) [a]=0:=by
 unfold refE;rw [if_pos (insB_iff.2 (by simpa using h))]
theorem refE_no {n:Nat} {a:Int} (h:¬ (0≤a∧a<(n:Int))):refE (n:Int) [a]=112:=by
 unfold refE;rw [if_neg (fun e=>h (by simpa using insB_iff.1 e))]
def NdOut (w w' : World) (x:Nd) (bo:Option Addr) (bc:Nat):Prop:=ArgT w' bo x.2.1 bc∧(∀ a,bo=some a→w.heap.size≤a.block)∧Same0 w w'
set_option maxHeartbeats 2000000 in
theorem hat_yes {B:Nat→Prop} {w:World} {h g room:Nat} {l:List Nd} (p:HpB B w h g room l) (i:Nat) (hi:i<l.length):Calls Try.prog 46 #[.pointer (some ⟨h,0,none⟩),.int .i64 (i:Int)] w fun e w' => ∃ bo bc,e=.returned (.tuple #[nodeV l[i] bo bc,.int .i64 0])∧NdOut w w' l[i] bo bc:=by
 obtain ⟨W0,hW0⟩:∃ W0,W0=w.alloc (.cells #[.int .i64 0,.slice none 0 0,.int .i64 0,.bool false,.int .i64 0] 71):=⟨_,rfl⟩
 have k0:Same0 w W0:=by rw [hW0];exact (Kept.refl _ w).alloc _
 have hb:W0.heap[w.heap.size]? = some (.cells #[.int .i64 0,.slice none 0 0,.int .i64 0,.bool false,.int .i64 0] 71 (0,0)):=by rw [hW0];exact heap_alloc_new w _
 have hz:W0.heap.size=w.heap.size+1:=by rw [hW0];simp
 have k1:Same0 W0 (W0.alloc (.cells #[.int .i64 (i:Int)] 3)):=(Kept.refl _ _).alloc _
 have p1:=(p.same k0).same k1
 have C:=refusal_hp p1 1 (ints_one W0 (i:Int)) (by simp)
 rw [refE_one (by omega)] at C
 obtain ⟨c0,c1⟩:=p1.cells
 obtain ⟨ao,ac,n0,n1,n2,n3,n4,n5,n6⟩:=p1.each i hi
 have hm:=(may_facts (p.may _ (List.getElem_mem hi))).2.1
 have CC:=copied_any (x:=l[i]) (ac:=ac) n5.1 (by omega)
 have i1:(0:Int)≤(i:Int):=by omega
 have i2:(i:Int)<(room:Int):=by have:=p.le;omega
 have HB:Hid (∀ ww,Same0 (W0.alloc (.cells #[.int .i64 (i:Int)] 3)) ww→ww.heap[w.heap.size]? = some (.cells #[.int .i64 0,.slice none 0 0,.int .i64 0,.bool false,.int .i64 0] 71 (0,0))):=fun ww hk=>(k1.trans' hk).at0 hb
 have HK:Hid (∀ ww,Same0 (W0.alloc (.cells #[.int .i64 (i:Int)] 3)) ww→Same0 w ww):=fun ww hk=>(k0.trans' k1).trans' hk
 have HZ:Hid (w.heap.size<W0.heap.size):=by show _<_;omega
 clear p p1 k0 hb k1 hz n5 n6
 go_enter Try.func46,Try.ntmps46
 go_upto_region 1 with fail
 rw [← hW0]
 clear hW0
 go_upto_region 4 with (first | (go_at_call 69;refine C.mono ?_;rintro e w' ⟨rfl,rfl⟩))
 clear C
 go_wp2_with (first | (go_at_call 59;refine CC.mono ?_;rintro e w1 ⟨bo,bc,rfl,ha,hbb,hk⟩;have q:=HB.out w1 hk;obtain ⟨b0,b1,b2,b3,b4⟩:=box5 q;obtain ⟨g0,g1,g2,g3,g4⟩:=free5 q;clear q CC n0 n1 n2 n3 n4 c0 c1))
 have hlt:w.heap.size<(W0.alloc (.cells #[.int .i64 (i:Int)] 3)).heap.size:=by have:=HZ.out;simp;omega
 have hx:∀ a,bo=some a→w.heap.size<a.block:=fun a e=>by have:=hbb a e;omega
 have K5:=put5_kept w1 w.heap.size 0 (.int .i64 l[i].1) (.slice bo l[i].2.1.length bc) (.int .i64 l[i].2.2.1) (.bool l[i].2.2.2.1) (.int .i64 l[i].2.2.2.2)
 have R1:=ha.kept' K5 (fun a e s=>by have:=hx a e;omega)
 have R2:Same0 w _:=(HK.out w1 hk).trans K5 (fun i hi e=>by omega)
 exact bodyPost_ret (v:=.tuple #[nodeV l[i] bo bc,.int .i64 0]) (by simp [results,Try.results46,go_sem,b0,b1,b2,b3,b4]) rfl ⟨bo,bc,rfl,R1,fun a e=>Nat.le_of_lt (hx a e),R2⟩
def Ind (l:List Nd):Nat→Nat→Nat→Prop
 | 0,a,b=>a=b
 | k+1,a,b=>∃ h:a<l.length,l[a].2.2.2.1=true∧Ind l k l[a].2.2.2.2.toNat b
def Res (l:List Nd) (a b:Nat):Prop:=(∃ k,Ind l k a b)∧∃ h:b<l.length,l[b].2.2.2.1=false
theorem Ind.uniq {l:List Nd}:∀ {k k' a b b' : Nat},Ind l k a b→Ind l k' a b' → (∃ h:b<l.length,l[b].2.2.2.1=false)→(∃ h:b' < l.length,l[b'].2.2.2.1=false)→b=b'
 | 0,0,a,b,b', h,h', _,_=>by cases h;cases h'; rfl
 | 0,k' + 1,a,b,b', h,⟨_,h1,_⟩,⟨_,q⟩,_=>by cases h;rw [h1] at q;cases q
 | k+1,0,a,b,b', ⟨_,h1,_⟩,h', _,⟨_,q⟩=>by cases h'; rw [h1] at q;cases q
 | k+1,k' + 1,a,b,b', ⟨_,_,h⟩,⟨_,_,h'⟩,q,q' => Ind.uniq h h' q q'
theorem Res.uniq {l:List Nd} {a b b' : Nat} (h:Res l a b) (h' : Res l a b'):b=b' := by
 obtain ⟨⟨k,h1⟩,h2⟩:=h
 obtain ⟨⟨k', h3⟩,h4⟩:=h'
 exact Ind.uniq h1 h3 h2 h4
theorem Ind.snoc {l:List Nd}:∀ {k a b:Nat},Ind l k a b→∀ (h:b<l.length),l[b].2.2.2.1=true→Ind l (k+1) a l[b].2.2.2.2.toNat
 | 0,a,b,h,hb,q=>by cases h;exact ⟨hb,q,rfl⟩
 | k+1,a,b,⟨h1,h2,h3⟩,hb,q=>⟨h1,h2,h3.snoc hb q⟩
theorem Res.step {l:List Nd} {a b:Nat} (h:a<l.length) (q:l[a].2.2.2.1=true) (r:Res l l[a].2.2.2.2.toNat b):Res l a b:=by
 obtain ⟨⟨k,h1⟩,h2⟩:=r
 exact ⟨⟨k+1,h,q,h1⟩,h2⟩
theorem Res.self {l:List Nd} {a:Nat} (h:a<l.length) (q:l[a].2.2.2.1=false):Res l a a:=⟨⟨0,rfl⟩,h,q⟩
theorem ed_ind {l:List Nd} {a:Nat} (h:a<l.length) (q:l[a].2.2.2.1=true) (hz:0≤l[a].2.2.2.2):Ed l a l[a].2.2.2.2.toNat:=⟨h,by unfold downL;rw [if_pos q];simp;omega⟩
set_option maxHeartbeats 1000000 in
theorem hres_no {B:Nat→Prop} {w:World} {h g room:Nat} {l:List Nd} (p:HpB B w h g room l) (a:Int) (ha:¬ (0≤a∧a<(l.length:Int))):Calls Try.prog 33 #[.pointer (some ⟨h,0,none⟩),.int .i64 a] w fun e w' => e=.returned (.tuple #[.int .i64 0,.int .i64 112])∧Same0 w w' := by
 have k1:Same0 w (w.alloc (.cells #[.int .i64 a] 3)):=(Kept.refl _ _).alloc _
 have C:=refusal_hp (p.same k1) 1 (ints_one w a) (by simp)
 rw [refE_no ha] at C
 clear p ha
 go_enter Try.func33,Try.ntmps33
 go_wp2_with (first | (go_at_call 69;refine C.mono ?_;rintro e w' ⟨rfl,rfl⟩))
 go_ret2
 exact ⟨rfl,k1⟩
set_option maxHeartbeats 2000000 in
theorem hres_yes {B:Nat→Prop} {w:World} {h g room:Nat} {l:List Nd} (p:HpB B w h g room l) (i:Nat) (hi:i<l.length):Calls Try.prog 33 #[.pointer (some ⟨h,0,none⟩),.int .i64 (i:Int)] w fun e w' => ∃ b:Nat,e=.returned (.tuple #[.int .i64 (b:Int),.int .i64 0])∧Res l i b∧Same0 w w' := by
 have k1:Same0 w (w.alloc (.cells #[.int .i64 (i:Int)] 3)):=(Kept.refl _ _).alloc _
 have p1:=p.same k1
 have C:=refusal_hp p1 1 (ints_one w (i:Int)) (by simp)
 rw [refE_one (by omega)] at C
 obtain ⟨c0,c1⟩:=p1.cells
 obtain ⟨r,hr⟩:=p.ac
 have HR:Hid (∀ i j,Ed l i j→r j<r i):=hr
 have HE:Hid (∀ j (hj:j<l.length),NdC B (w.alloc (.cells #[.int .i64 (i:Int)] 3)) g (j * 5) l[j]):=p1.each
 have HM:Hid (∀ x∈l,mayB l.length x=true):=p.may
 have hle:=p.le
 have K1:Hid (Same0 w (w.alloc (.cells #[.int .i64 (i:Int)] 3))):=k1
 clear p p1 k1 hr
 go_enter Try.func33,Try.ntmps33
 go_upto_region 4 with (first | (go_at_call 69;refine C.mono ?_;rintro e w' ⟨rfl,rfl⟩))
 clear C
 go_loop [1] (fun v=>∃ a:Nat,a<l.length∧v=.int .i64 (a:Int)∧Hid (∃ k,Ind l k i a)) (fun v=>r (intOf v).toNat)
 case atStart=>exact ⟨i,hi,rfl,0,rfl⟩
 case round=>
  obtain ⟨a,ha,rfl,hk⟩:=hrel
  obtain ⟨ao,ac,n0,n1,n2,n3,n4, -, -⟩:=HE.out a ha
  have i1:(0:Int)≤(a:Int):=by omega
  have i2:(a:Int)<(room:Int):=by omega
  have mf:=may_facts (HM.out _ (List.getElem_mem ha))
  cases hp:l[a].2.2.2.1
  ·rw [hp] at n3
   have HP:Hid (l[a].2.2.2.1=false):=hp
   clear hp mf n0 n1 n2 n4
   go_wp2
   go_ret2
   exact ⟨a,rfl,⟨hk.out,ha,HP.out⟩,K1.out⟩
  ·rw [hp] at n3
   have HP:Hid (l[a].2.2.2.1=true):=hp
   obtain ⟨m1,m2, -⟩:=mf.2.2.2.2.2.1 hp
   obtain ⟨t,ht⟩:∃ t:Nat,l[a].2.2.2.2=(t:Int):=⟨l[a].2.2.2.2.toNat,by omega⟩
   have HT:Hid (l[a].2.2.2.2=(t:Int)):=ht
   rw [ht] at n4
   have hlt:t<l.length:=by omega
   clear hp mf n0 n1 n2 m1 m2 ht
   go_wp2
   go_round
   case rel=>exact ⟨t,hlt,rfl,by
    obtain ⟨k,hk⟩:=hk.out
    have:=hk.snoc ha HP.out
    rw [HT.out] at this
    exact ⟨k+1,by simpa using this⟩⟩
   case measure=>
    have:=HR.out a t (by have:=ed_ind ha HP.out (by rw [HT.out];omega);rw [HT.out] at this;simpa using this)
    simpa [intOf] using this
set_option maxHeartbeats 2000000 in
theorem appl_no {B:Nat→Prop} {w:World} {h g room:Nat} {N:List Nd} (p:HpB B w h g room N) (a:Int) (ha:¬ (0≤a∧a<(N.length:Int))) :
  Calls Try.prog 61 #[.pointer (some ⟨h,0,none⟩),.int .i64 a] w fun e w' => e=.returned (.tuple #[.int .i64 0,nodeV (0,[],0,false,0) none 0,.int .i64 112])∧Same0 w w' := by
 obtain ⟨W0,hW0⟩:∃ W0,W0=w.alloc (.cells #[.int .i64 0,.slice none 0 0,.int .i64 0,.bool false,.int .i64 0] 71):=⟨_,rfl⟩
 have k0:Same0 w W0:=by rw [hW0];exact (Kept.refl _ w).alloc _
 have hb:W0.heap[w.heap.size]? = some (.cells #[.int .i64 0,.slice none 0 0,.int .i64 0,.bool false,.int .i64 0] 71 (0,0)):=by rw [hW0];exact heap_alloc_new w _
 have C:=hres_no (p.same k0) a ha
 have HB:Hid (∀ ww,Same0 W0 ww→ww.heap[w.heap.size]? = some (.cells #[.int .i64 0,.slice none 0 0,.int .i64 0,.bool false,.int .i64 0] 71 (0,0))∧Same0 w ww):=fun ww hk=>⟨hk.at0 hb,k0.trans' hk⟩
 clear p ha k0 hb
 go_enter Try.func61,Try.ntmps61
 go_upto_region 1 with fail
 rw [← hW0]
 clear hW0
 go_wp2_with (first | (go_at_call 33;refine C.mono ?_;rintro e w1 ⟨rfl,k1⟩;obtain ⟨q,k2⟩:=HB.out w1 k1;obtain ⟨b0,b1,b2,b3,b4⟩:=box5 q;obtain ⟨g0,g1,g2,g3,g4⟩:=free5 q;clear q C))
 have K5:=put5_kept w1 w.heap.size 0 (.int .i64 0) (.slice none 0 0) (.int .i64 0) (.bool false) (.int .i64 0)
 exact bodyPost_ret (v:=.tuple #[.int .i64 0,nodeV (0,[],0,false,0) none 0,.int .i64 112]) (by simp [results,Try.results61,go_sem,b0,b1,b2,b3,b4,nodeV]) rfl ⟨rfl,k2.trans K5 (fun i hi e=>by omega)⟩
set_option maxHeartbeats 4000000 in
theorem appl_yes {B:Nat→Prop} {w:World} {h g room:Nat} {N:List Nd} (p:HpB B w h g room N) (i:Nat) (hi:i<N.length) :
  Calls Try.prog 61 #[.pointer (some ⟨h,0,none⟩),.int .i64 (i:Int)] w fun e w' => ∃ (b:Nat) (hb:b<N.length) (bo:Option Addr) (bc:Nat),e=.returned (.tuple #[.int .i64 (b:Int),nodeV N[b] bo bc,.int .i64 0])∧Res N i b∧ArgT w' bo N[b].2.1 bc∧(∀ a,bo=some a→w.heap.size≤a.block)∧Same0 w w' := by
 obtain ⟨W0,hW0⟩:∃ W0,W0=w.alloc (.cells #[.int .i64 0,.slice none 0 0,.int .i64 0,.bool false,.int .i64 0] 71):=⟨_,rfl⟩
 have k0:Same0 w W0:=by rw [hW0];exact (Kept.refl _ w).alloc _
 have hb:W0.heap[w.heap.size]? = some (.cells #[.int .i64 0,.slice none 0 0,.int .i64 0,.bool false,.int .i64 0] 71 (0,0)):=by rw [hW0];exact heap_alloc_new w _
 have C:=hres_yes (p.same k0) i hi
 have HA:Hid (∀ ww b,Same0 W0 ww→(hb:b<N.length)→Calls Try.prog 46 #[.pointer (some ⟨h,0,none⟩),.int .i64 (b:Int)] ww fun e w' => ∃ bo bc,e=.returned (.tuple #[nodeV N[b] bo bc,.int .i64 0])∧NdOut ww w' N[b] bo bc):=fun ww b hk hb=>hat_yes ((p.same k0).same hk) b hb
 have HB:Hid (∀ ww,Same0 W0 ww→ww.heap[w.heap.size]? = some (.cells #[.int .i64 0,.slice none 0 0,.int .i64 0,.bool false,.int .i64 0] 71 (0,0))∧Same0 w ww):=fun ww hk=>⟨hk.at0 hb,k0.trans' hk⟩
 have hz0:w.heap.size<W0.heap.size:=by rw [hW0];simp
 clear p hi k0 hb
 go_enter Try.func61,Try.ntmps61
 go_upto_region 1 with fail
 rw [← hW0]
 clear hW0
 go_upto_region 5 with (first
  | (go_at_call 33;refine C.mono ?_;rintro e w1 ⟨b,rfl,hr,k1⟩;obtain ⟨hbl, -⟩:=hr.2;have CA:=HA.out w1 b k1 hbl)
  | (go_at_call 46;refine CA.mono ?_;rintro e w2 ⟨bo,bc,rfl,a1,a2,k2⟩))
 obtain ⟨X1,hX1⟩:∃ X1,X1=w2.alloc (.cells #[.int .i64 N[b].1,.slice bo N[b].2.1.length bc,.int .i64 N[b].2.2.1,.bool N[b].2.2.2.1,.int .i64 N[b].2.2.2.2] 71):=⟨_,rfl⟩
 have kx:Same0 w2 X1:=by rw [hX1];exact (Kept.refl _ _).alloc _
 obtain ⟨q,k3⟩:=HB.out X1 ((k1.trans' k2).trans' kx)
 obtain ⟨x0,x1,x2,x3,x4⟩:=box5 (show X1.heap[w2.heap.size]? = some (.cells #[.int .i64 N[b].1,.slice bo N[b].2.1.length bc,.int .i64 N[b].2.2.1,.bool N[b].2.2.2.1,.int .i64 N[b].2.2.2.2] 71 (0,0)) by rw [hX1];exact heap_alloc_new _ _)
 rw [← hX1]
 obtain ⟨b0,b1,b2,b3,b4⟩:=box5 q
 obtain ⟨g0,g1,g2,g3,g4⟩:=free5 q
 have a3:=a1.same kx
 have hz1:=k1.size
 have FIN:Hid (∀ ww,Same0 (put5 X1 w.heap.size 0 (.int .i64 N[b].1) (.slice bo N[b].2.1.length bc) (.int .i64 N[b].2.2.1) (.bool N[b].2.2.2.1) (.int .i64 N[b].2.2.2.2)) ww→∃ (b' : Nat) (hb:b' < N.length) (bo' : Option Addr) (bc' : Nat),Ending.returned (.tuple #[.int .i64 (b:Int),nodeV N[b] bo bc,.int .i64 0])=.returned (.tuple #[.int .i64 (b' : Int),nodeV N[b'] bo' bc', .int .i64 0])∧Res N i b' ∧ ArgT ww bo' N[b'].2.1 bc' ∧ (∀ a,bo' = some a→w.heap.size≤a.block)∧Same0 w ww):=fun ww hk=>by
  have K5:=put5_kept X1 w.heap.size 0 (.int .i64 N[b].1) (.slice bo N[b].2.1.length bc) (.int .i64 N[b].2.2.1) (.bool N[b].2.2.2.1) (.int .i64 N[b].2.2.2.2)
  exact ⟨b,hbl,bo,bc,rfl,hr,(a3.kept' K5 (fun a e s=>by have:=a2 a e;omega)).same hk,fun a e=>by have:=a2 a e;omega,Same0.trans' (k3.trans K5 (fun i hi e=>by omega)) hk⟩
 clear hX1 q C CA a1 a2 a3 kx HB HA
 go_region
 all_goals (go_wp2;exact bodyPost_ret (v:=.tuple #[.int .i64 (b:Int),nodeV N[b] bo bc,.int .i64 0]) (by simp [results,Try.results61,go_sem,b0,b1,b2,b3,b4,nodeV]) rfl (FIN.out _ (by first | exact Kept.refl _ _ | exact (Kept.refl _ _).drew | exact (Kept.refl _ _).drewN _)))
theorem of_any (ho:Option Addr) (w:World):Calls Try.prog 28 #[.pointer ho] w fun e w' => e=.returned (.agg #[.pointer ho])∧Same0 w w' := by
 obtain ⟨W0,hW0⟩:∃ W0,W0=w.alloc (.cells #[.pointer none] 79):=⟨_,rfl⟩
 have k0:Same0 w W0:=by rw [hW0];exact (Kept.refl _ w).alloc _
 have hb:W0.heap[w.heap.size]? = some (.cells #[.pointer none] 79 (0,0)):=by rw [hW0];exact heap_alloc_new w _
 have b0:W0.cell? ⟨w.heap.size,0,none⟩=some (.pointer none):=cellAt hb 0
 have g0:=frozenAt hb 0
 go_enter Try.func28,Try.ntmps28
 go_upto_region 1 with fail
 rw [← hW0]
 clear hW0
 go_wp2
 have K1:Kept (fun k=>k=w.heap.size) W0 (W0.setCell ⟨w.heap.size,0,none⟩ (.pointer ho)):=Kept.setCell (S:=fun k=>k=w.heap.size) (Kept.refl _ _) (p:=⟨w.heap.size,0,none⟩) (fun _=>rfl) _
 exact bodyPost_ret (v:=.agg #[.pointer ho]) (by simp [results,Try.results28,go_sem,b0]) rfl ⟨rfl,k0.trans K1 (fun i hi e=>by omega)⟩
def HasA (N:List Nd) (z n:Int):Prop:=∃ (i b:Nat) (hb:b<N.length),z=(i:Int)∧Res N i b∧0≤n∧n<(N[b].2.1.length:Int)
def ArR (N:List Nd) (z n y:Int):Prop:=
 (∃ (i b c:Nat) (hb:b<N.length) (hn:n.toNat<N[b].2.1.length),z=(i:Int)∧Res N i b∧0≤n∧Res N (N[b].2.1[n.toNat]).toNat c∧y=(c:Int))∨(y = -1∧¬ HasA N z n)
def LdR (N:List Nd):Int→List Int→Int→Prop
 | z,[],y=>y=z
 | z,n :: p,y=>∃ u,ArR N z n u∧LdR N u p y
theorem LdR.snoc {N:List Nd}:∀ {p:List Int} {z y n u:Int},LdR N z p y→ArR N y n u→LdR N z (p ++ [n]) u
 | [],z,y,n,u,h,h2=>by cases h;exact ⟨u,h2,rfl⟩
 | m :: p,z,y,n,u,⟨v,h1,h2⟩,h3=>⟨v,h1,h2.snoc h3⟩
theorem Res.lt {N:List Nd} {i b:Nat} (h:Res N i b):i<N.length∧b<N.length:=by
 obtain ⟨⟨k,h1⟩,hb,_⟩:=h
 cases k with
 | zero=>cases h1;exact ⟨hb,hb⟩
 | succ k=>exact ⟨h1.1,hb⟩
theorem ArR.range {N:List Nd} {z n y:Int} (h:ArR N z n y):y = -1∨(0≤y∧y<(N.length:Int)):=by
 rcases h with ⟨i,b,c,hb,hn,_,_,_,h5,rfl⟩ | ⟨rfl,_⟩
 ·have:=h5.lt.2;right;omega
 ·exact .inl rfl
theorem LdR.range {N:List Nd}:∀ {p:List Int} {z y:Int},(z = -1∨(0≤z∧z<(N.length:Int)))→LdR N z p y→y = -1∨(0≤y∧y<(N.length:Int))
 | [],z,y,hz,h=>by cases h;exact hz
 | m :: p,z,y,hz,⟨v,h1,h2⟩=>LdR.range h1.range h2
theorem sight_arg (v : Value) (w : World) : (Go.method 348 79 v "Arg").run Try.prog w = .ok (30, v) w := by kernel_rfl
set_option maxHeartbeats 2000000 in
theorem head_yes {B:Nat→Prop} {w:World} {h g room:Nat} {N:List Nd} (p:HpB B w h g room N) (i:Nat) (hi:i<N.length) :
  Calls Try.prog 29 #[.agg #[.pointer (some ⟨h,0,none⟩)],.int .i64 (i:Int)] w fun e w' => ∃ (b:Nat) (hb:b<N.length),e=.returned (.tuple #[.int .i64 N[b].1,.bool (decide (0<N[b].2.2.1))])∧Res N i b∧Same0 w w' := by
 obtain ⟨W0,hW0⟩:∃ W0,W0=w.alloc (.cells #[.pointer (some ⟨h,0,none⟩)] 79):=⟨_,rfl⟩
 have k0:Same0 w W0:=by rw [hW0];exact (Kept.refl _ w).alloc _
 have b0:W0.cell? ⟨w.heap.size,0,none⟩=some (.pointer (some ⟨h,0,none⟩)):=by rw [hW0];exact cellAt (heap_alloc_new w _) 0
 have C:=appl_yes (p.same k0) i hi
 have HM:Hid (∀ x∈N,0≤x.2.2.1∧x.2.2.1≤2):=fun x hx=>⟨(may_facts (p.may x hx)).2.2.1,(may_facts (p.may x hx)).2.2.2.1⟩
 clear p hi
 go_enter Try.func29,Try.ntmps29
 go_upto_region 1 with fail
 rw [← hW0]
 clear hW0
 go_upto_region 4 with (first | (go_at_call 61;refine C.mono ?_;rintro e w1 ⟨b,hb,bo,bc,rfl,hr, -, -,k1⟩))
 obtain ⟨X1,hX1⟩:∃ X1,X1=w1.alloc (.cells #[.int .i64 N[b].1,.slice bo N[b].2.1.length bc,.int .i64 N[b].2.2.1,.bool N[b].2.2.2.1,.int .i64 N[b].2.2.2.2] 71):=⟨_,rfl⟩
 have kx:Same0 w X1:=by rw [hX1];exact (k0.trans' k1).trans' ((Kept.refl _ _).alloc _)
 obtain ⟨x0,x1,x2,x3,x4⟩:=box5 (show X1.heap[w1.heap.size]? = some (.cells #[.int .i64 N[b].1,.slice bo N[b].2.1.length bc,.int .i64 N[b].2.2.1,.bool N[b].2.2.2.1,.int .i64 N[b].2.2.2.2] 71 (0,0)) by rw [hX1];exact heap_alloc_new _ _)
 rw [← hX1]
 have hmk:=HM.out _ (List.getElem_mem hb)
 have FIN:Hid (∀ ww,Same0 X1 ww→∀ v,v=decide (0<N[b].2.2.1)→∃ (b' : Nat) (hb' : b' < N.length),Ending.returned (.tuple #[.int .i64 N[b].1,.bool v])=.returned (.tuple #[.int .i64 N[b'].1,.bool (decide (0<N[b'].2.2.1))])∧Res N i b' ∧ Same0 w ww):=fun ww hk v hv=>⟨b,hb,by rw [hv],hr,kx.trans' hk⟩
 clear hX1 C k0 b0 HM
 generalize N[b].2.2.1=m at *
 generalize N[b].1=s at *
 by_cases h1:m=1
 ·have d1:(m == 1)=true:=by simpa using h1
  have hv:Hid (true=decide (0<m)):=by show _=_;simp;omega
  clear h1 hmk
  go_quiet (fail)
  go_wp2
  go_ret2
  exact FIN.out _ ((Kept.refl _ _).drewN _) _ hv.out
 ·have d1:(m == 1)=false:=by simpa using h1
  by_cases h2:m=2
  ·have d2:(m == 2)=true:=by simpa using h2
   have hv:Hid (true=decide (0<m)):=by show _=_;simp;omega
   clear h1 h2 hmk
   go_quiet (fail)
   go_wp2
   go_ret2
   exact FIN.out _ ((Kept.refl _ _).drewN _) _ hv.out
  ·have d2:(m == 2)=false:=by simpa using h2
   have hv:Hid (false=decide (0<m)):=by show _=_;simp;omega
   clear h1 h2 hmk
   go_quiet (fail)
   go_wp2
   go_ret2
   exact FIN.out _ ((Kept.refl _ _).drewN _) _ hv.out
set_option maxHeartbeats 2000000 in
theorem arg_no {B:Nat→Prop} {w:World} {h g room:Nat} {N:List Nd} (p:HpB B w h g room N) (a n:Int) (ha:¬ (0≤a∧a<(N.length:Int))) :
  Calls Try.prog 30 #[.agg #[.pointer (some ⟨h,0,none⟩)],.int .i64 a,.int .i64 n] w fun e w' => e=.returned (.int .i64 (-1))∧Same0 w w' := by
 obtain ⟨W0,hW0⟩:∃ W0,W0=w.alloc (.cells #[.pointer (some ⟨h,0,none⟩)] 79):=⟨_,rfl⟩
 have k0:Same0 w W0:=by rw [hW0];exact (Kept.refl _ w).alloc _
 have b0:W0.cell? ⟨w.heap.size,0,none⟩=some (.pointer (some ⟨h,0,none⟩)):=by rw [hW0];exact cellAt (heap_alloc_new w _) 0
 have C:=appl_no (p.same k0) a ha
 clear p ha
 go_enter Try.func30,Try.ntmps30
 go_upto_region 1 with fail
 rw [← hW0]
 clear hW0
 go_wp2_with (first | (go_at_call 61;refine C.mono ?_;rintro e w1 ⟨rfl,k1⟩))
 go_ret
 exact ⟨rfl,(k0.trans' k1).trans' ((Kept.refl _ w1).alloc _)⟩
set_option maxHeartbeats 4000000 in
theorem arg_yes {B:Nat→Prop} {w:World} {h g room:Nat} {N:List Nd} (p:HpB B w h g room N) (i:Nat) (hi:i<N.length) (n:Int) :
  Calls Try.prog 30 #[.agg #[.pointer (some ⟨h,0,none⟩)],.int .i64 (i:Int),.int .i64 n] w fun e w' => ∃ y,e=.returned (.int .i64 y)∧ArR N (i:Int) n y∧Same0 w w' := by
 obtain ⟨W0,hW0⟩:∃ W0,W0=w.alloc (.cells #[.pointer (some ⟨h,0,none⟩)] 79):=⟨_,rfl⟩
 have k0:Same0 w W0:=by rw [hW0];exact (Kept.refl _ w).alloc _
 have h0:W0.heap[w.heap.size]? = some (.cells #[.pointer (some ⟨h,0,none⟩)] 79 (0,0)):=by rw [hW0];exact heap_alloc_new w _
 have b0:W0.cell? ⟨w.heap.size,0,none⟩=some (.pointer (some ⟨h,0,none⟩)):=cellAt h0 0
 have C:=appl_yes (p.same k0) i hi
 have HM:Hid (∀ x∈N,x.2.1.length≤6∧∀ z∈x.2.1,0≤z∧z<(N.length:Int)):=fun x hx=>⟨(may_facts (p.may x hx)).2.1,(may_facts (p.may x hx)).2.2.2.2.1⟩
 have HA:Hid (∀ ww (j:Nat),Same0 W0 ww→j<N.length→Calls Try.prog 61 #[.pointer (some ⟨h,0,none⟩),.int .i64 (j:Int)] ww fun e w' => ∃ (b:Nat) (hb:b<N.length) (bo:Option Addr) (bc:Nat),e=.returned (.tuple #[.int .i64 (b:Int),nodeV N[b] bo bc,.int .i64 0])∧Res N j b∧ArgT w' bo N[b].2.1 bc∧(∀ a,bo=some a→ww.heap.size≤a.block)∧Same0 ww w'):=fun ww j hk hj=>appl_yes ((p.same k0).same hk) j hj
 have HB:Hid (∀ ww,Same0 W0 ww→ww.cell? ⟨w.heap.size,0,none⟩=some (.pointer (some ⟨h,0,none⟩))∧Same0 w ww):=fun ww hk=>⟨cellAt (hk.at0 h0) 0,k0.trans' hk⟩
 clear p hi k0 h0
 go_enter Try.func30,Try.ntmps30
 go_upto_region 1 with fail
 rw [← hW0]
 clear hW0
 go_upto_region 2 with (first | (go_at_call 61;refine C.mono ?_;rintro e w1 ⟨b,hb,bo,bc,rfl,hr,ha, -,k1⟩))
 obtain ⟨X1,hX1⟩:∃ X1,X1=w1.alloc (.cells #[.int .i64 N[b].1,.slice bo N[b].2.1.length bc,.int .i64 N[b].2.2.1,.bool N[b].2.2.2.1,.int .i64 N[b].2.2.2.2] 71):=⟨_,rfl⟩
 have kx1:Same0 w1 X1:=by rw [hX1];exact (Kept.refl _ _).alloc _
 have kx:Same0 W0 X1:=k1.trans' kx1
 have hbox:X1.heap[w1.heap.size]? = some (.cells #[.int .i64 N[b].1,.slice bo N[b].2.1.length bc,.int .i64 N[b].2.2.1,.bool N[b].2.2.2.1,.int .i64 N[b].2.2.2.2] 71 (0,0)):=by rw [hX1];exact heap_alloc_new _ _
 obtain ⟨x0,x1,x2,x3,x4⟩:=box5 hbox
 rw [← hX1]
 obtain ⟨hlen,hall⟩:=HM.out _ (List.getElem_mem hb)
 obtain ⟨y0,k2⟩:=HB.out X1 kx
 have NO:Hid (¬ (0≤n∧n<(N[b].2.1.length:Int))→ArR N (i:Int) n (-1)):=fun hn=>.inr ⟨rfl,fun ⟨i', b', hb', e1,e2,e3,e4⟩=>by
  obtain rfl:i=i' := by omega
  obtain rfl:=hr.uniq e2
  exact hn ⟨e3,e4⟩⟩
 clear hX1 C b0
 by_cases hn0:n<0
 ·have H:=NO.out (by omega)
  clear hall
  go_wp2_with fail
  go_ret
  exact ⟨-1,rfl,H,k2⟩
 ·by_cases hn1:(N[b].2.1.length:Int)≤n
  ·have H:=NO.out (by omega)
   clear hall
   go_wp2_with fail
   go_ret
   exact ⟨-1,rfl,H,k2⟩
  ·obtain ⟨m,rfl⟩:∃ m:Nat,n=(m:Int):=⟨n.toNat,by omega⟩
   have hm:m<N[b].2.1.length:=by omega
   obtain ⟨hz0,hz1⟩:=hall _ (List.getElem_mem hm)
   obtain ⟨j,ej⟩:∃ j:Nat,N[b].2.1[m]=(j:Int):=⟨N[b].2.1[m].toNat,by omega⟩
   have HAJ:Hid (∀ ww,Same0 X1 ww→Calls Try.prog 61 #[.pointer (some ⟨h,0,none⟩),.int .i64 (j:Int)] ww fun e w' => ∃ (c:Nat) (s:Int) (bo:Option Addr) (ln bc:Nat) (mk:Int) (pt:Bool) (tt:Int),e=.returned (.tuple #[.int .i64 (c:Int),.agg #[.int .i64 s,.slice bo ln bc,.int .i64 mk,.bool pt,.int .i64 tt],.int .i64 0])∧Res N j c∧Same0 ww w'):=fun ww hk=>(HA.out ww j (kx.trans' hk) (by omega)).mono (fun e w' ⟨c,hc,bo,bc,e1,e2,_,_,e5⟩=>⟨c,_,bo,_,bc,_,_,_,e1,e2,e5⟩)
   have ha1:=(ha.same kx1).1.at'
   obtain ⟨ab,aoff,hbo,hab,hac⟩:=ha1.get hm
   rw [ej] at hac
   have i1:(0:Int)≤(m:Int):=by omega
   have i2:(m:Int)<(N[b].2.1.length:Int):=by omega
   have YES:Hid (∀ c,Res N j c→ArR N (i:Int) (m:Int) (c:Int)):=fun c hc=>.inl ⟨i,b,c,hb,by simpa using hm,rfl,hr,by omega,by simp only [Int.toNat_natCast];rw [ej];simpa using hc,rfl⟩
   subst hbo
   have hzx:w.heap.size≤X1.heap.size:=k2.size
   have hbx1:=lt_of_at hbox
   have REST:Hid (∀ lb,N[b].2.1.length=lb→i<N.length→True):=fun _ _ _=>trivial
   obtain ⟨lb,hlb⟩:∃ lb,N[b].2.1.length=lb:=⟨_,rfl⟩
   rw [hlb] at i2 x1 hbox
   clear REST hlb
   have hbw:X1.heap[w1.heap.size]? = some (.cells #[.int .i64 N[b].1,.slice (some ⟨ab,aoff,none⟩) lb bc,.int .i64 N[b].2.2.1,.bool N[b].2.2.2.1,.int .i64 N[b].2.2.2.2] 71 (0,0)):=hbox
   have y0w:w.heap.size<X1.heap.size:=World.block_lt_of_cell? _ _ y0
   have FC:Hid (∀ ww,Kept (fun k=>X1.heap.size≤k) X1 ww→(ww.cell? ⟨w.heap.size,0,none⟩=some (.pointer (some ⟨h,0,none⟩))∧ww.cell? ⟨w1.heap.size,1,none⟩=some (.slice (some ⟨ab,aoff,none⟩) lb bc)∧ww.cell? ⟨ab,aoff+m,none⟩=some (.int .i64 (j:Int)))):=fun ww hk=>⟨(hk.cell (p:=⟨w.heap.size,0,none⟩) y0w (fun q=>by have q' : X1.heap.size≤w.heap.size:=q;omega)).trans y0,cellAt (hk.at hbox (by omega)) 1,(hk.cell (p:=⟨ab,aoff+m,none⟩) hab (fun q=>by have q' : X1.heap.size≤ab:=q;omega)).trans hac⟩
   have KA:Hid (Same0 X1 (X1.alloc (.cells #[.int .i64 0,.slice none 0 0,.int .i64 0,.bool false,.int .i64 0] 71)).drew):=Same0.trans' ((Kept.refl _ X1).alloc _) ((Kept.refl _ _).drew)
   have HK2:Hid (Same0 w X1):=k2
   have KD:Hid (Same0 X1 X1.drew):=(Kept.refl _ _).drew
   clear hall hz0 hz1 ej hn0 hn1 NO HA HM ha ha1 hbox hbw kx1 x0 x2 x3 x4 hr hm hlen hbx1 y0w kx HB k1 k2
   go_upto_region 4 with fail
   obtain ⟨S0a,S0b,S0c⟩:=FC.out X1.drew ((Kept.refl _ _).drew)
   obtain ⟨S1a,S1b,S1c⟩:=FC.out (X1.alloc (.cells #[.int .i64 0,.slice none 0 0,.int .i64 0,.bool false,.int .i64 0] 71)).drew (KA.out.mono (fun _ _ f=>f.elim))
   clear hac x1 y0
   go_region_held3 (fun ww=>ww.cell? ⟨w.heap.size,0,none⟩=some (.pointer (some ⟨h,0,none⟩))∧ww.cell? ⟨w1.heap.size,1,none⟩=some (.slice (some ⟨ab,aoff,none⟩) lb bc)∧ww.cell? ⟨ab,aoff+m,none⟩=some (.int .i64 (j:Int))) (with_reducible first | exact ⟨S0a,S0b,S0c⟩ | exact ⟨S1a,S1b,S1c⟩ | exact cc1 | exact cc2 | exact cc3 | exact cc4) (first
    | (go_at_call 61;refine (HAJ.out _ (by with_reducible exact KD.out)).mono ?_;rintro e w2 ⟨c,s,bo2,ln,bc2,mk,pt,tt,rfl,hr2,k3⟩;have K2:Kept (fun k=>X1.heap.size≤k) X1 w2:=((Kept.refl _ X1).drew).trans k3 (fun _ _ f=>f.elim);have KF:Hid (∀ ww,Kept (fun k=>k=w2.heap.size) w2 ww→Same0 w ww):=(fun ww hk=>(HK2.out.trans' (Same0.trans' ((Kept.refl _ X1).drew) k3)).trans hk (fun i hi e=>by have:=K2.size;omega));have cc1:=FC.out w2 K2;have cc2:=FC.out (w2.alloc (.cells #[.int .i64 0,.slice none 0 0,.int .i64 0,.bool false,.int .i64 0] 71)) (K2.trans ((Kept.refl (fun _=>False) w2).alloc _) (fun _ _ f=>f.elim));have cc3:=FC.out (w2.alloc (.cells #[.int .i64 s,.slice bo2 ln bc2,.int .i64 mk,.bool pt,.int .i64 tt] 71)) (K2.trans ((Kept.refl (fun _=>False) w2).alloc _) (fun _ _ f=>f.elim)))
    | (go_at_call 61;refine (HAJ.out _ (by with_reducible exact KA.out)).mono ?_;rintro e w2 ⟨c,s,bo2,ln,bc2,mk,pt,tt,rfl,hr2,k3⟩;have K2:Kept (fun k=>X1.heap.size≤k) X1 w2:=(Same0.trans' KA.out k3).mono (fun _ _ f=>f.elim);have KF:Hid (∀ ww,Kept (fun k=>k=X1.heap.size) w2 ww→Same0 w ww):=(fun ww hk=>(HK2.out.trans' (Same0.trans' KA.out k3)).trans hk (fun i hi e=>by omega));have q5:w2.heap[X1.heap.size]? = some (.cells #[.int .i64 0,.slice none 0 0,.int .i64 0,.bool false,.int .i64 0] 71 (0,0)):=k3.at0 (heap_alloc_new X1 _);obtain ⟨z0,z1,z2,z3,z4⟩:=box5 q5;obtain ⟨f0,f1,f2,f3,f4⟩:=free5 q5;clear q5;have cc1:=FC.out w2 K2;have cc4:=FC.out (put5 w2 X1.heap.size 0 (.int .i64 s) (.slice bo2 ln bc2) (.int .i64 mk) (.bool pt) (.int .i64 tt)) (K2.trans (put5_kept _ _ _ _ _ _ _ _) (fun i hi e=>by omega));unfold put5 at cc4))
   all_goals go_wp2_with fail
   all_goals go_ret
   all_goals first
    | exact ⟨_,rfl,YES.out _ hr2,KF.out _ ((Kept.refl _ _).alloc _)⟩
    | exact ⟨_,rfl,YES.out _ hr2,KF.out _ (put5_kept _ _ _ _ _ _ _ _)⟩
    | exact ⟨_,rfl,YES.out _ hr2,KF.out _ (((Kept.refl (fun _=>False) w2).alloc _).trans (put5_kept _ _ _ _ _ _ _ _) (fun _ _ e=>e))⟩
end Go.Proofs.Ytpimndkhoalaeaa
namespace Go.Proofs.Ytpimndkhoalaeaa
set_option linter.unusedVariables false
open Go.RowKit
theorem putObj_at {W:World} {l k:Nat} {o o' x:Obj} (hl:W.heap[l]? = some o) (hx:o.isCells=false) (hk:W.heap[k]? = some x) (hc:x.isCells=true):(W.putObj l o').heap[k]? = some x:=by
 have:k≠l:=fun e=>by subst e;rw [hl] at hk;cases hk;rw [hx] at hc;cases hc
 exact (World.putObj_heap_other this).trans hk
structure Rnd (D B:Nat) (W W' : World):Prop where
 recs:KeepsFrom D W W'
 below:Below B W W'
theorem Rnd.trans {D B:Nat} {X Y Z:World} (h:Rnd D B X Y) (k:Rnd D B Y Z):Rnd D B X Z:=⟨h.recs.trans k.recs,h.below.trans k.below⟩
theorem Rnd.same {D B:Nat} {W W' : World} (h:Same0 W W') (hB:B≤W.heap.size):Rnd D B W W' :=
 ⟨⟨h.size,fun k o _ hk _=>h.at0 hk⟩,h.below.mono hB⟩
section
variable {F : Fence} {n : Nat} {P : Program}
end
section
variable {F : Fence} {n : Nat} {P : Program}
end
theorem kept_putH {W:World} {l:Nat} {o' : Obj}:Kept (fun k=>k=l) W (W.putObj l o'):=
 ⟨rfl,rfl,rfl,by simp,fun k _ hn=>World.putObj_heap_other hn⟩
def CellsOf (C:Nat→Prop) (X:World):Prop:=∀ i,C i→∃ cs t fr,X.heap[i]? = some (.cells cs t fr)
theorem CellsOf.kept {C:Nat→Prop} {X Y:World} (h:CellsOf C X) (hk:Kept (fun i=>¬ C i) X Y):CellsOf C Y:=fun i hi=>by
 obtain ⟨cs,t,fr,e⟩:=h i hi
 exact ⟨cs,t,fr,hk.at e (fun q=>q hi)⟩
theorem CellsOf.same {C:Nat→Prop} {X Y:World} (h:CellsOf C X) (hk:Same0 X Y):CellsOf C Y:=h.kept (hk.mono (fun _ _ f=>f.elim))
theorem CellsOf.put {C:Nat→Prop} {X:World} (h:CellsOf C X) {l:Nat} {o o' : Obj} (hl:X.heap[l]? = some o) (ho:o.isCells=false):Kept (fun i=>¬ C i) X (X.putObj l o'):=
 kept_putH.mono (fun i _ e hc=>by
  obtain ⟨cs,t,fr,q⟩:=h i hc
  have e' : i=l:=e
  rw [e', hl] at q
  cases q
  cases ho)
structure RndC (D:Nat) (C:Nat→Prop) (W W' : World):Prop where
 recs:KeepsFrom D W W'
 kp:Kept (fun i=>¬ C i) W W'
theorem RndC.same {D:Nat} {C:Nat→Prop} {W W' : World} (h:Same0 W W'):RndC D C W W' := ⟨⟨h.size,fun k o _ hk _=>h.at0 hk⟩,h.mono (fun _ _ f=>f.elim)⟩
section
variable {F : Fence} {n : Nat} {P : Program}
def HandsC (F:Fence) (n:Nat) (P:Program) (gf:Nat) (lb:Array Value) (A:Nat→Prop) (N:Nat) (Lk:Nat→Array Value→World→Prop) (w:World):Prop:=
 ∀ (l:Nat) (J:(Nat→Prop)→Nat→World→Prop) (Z:World→Prop) (W:World),Same0 w W→(∀ C k X Y,J C k X→Same0 X Y→J C k Y)→(∀ X Y,Z X→Same0 X Y→Z Y) →
  (∀ C k vs X,k<N→CellsOf C X→J C k X→Lk k vs X→YieldAt F (n-1) P l vs X fun e Y=>(e=.returned (.bool true)∧J C (k+1) Y∧Kept (fun i=>¬ C i) X Y)∨(e=.returned (.bool false)∧Z Y)) →
  (∀ C X,Same0 W X→CellsOf C X→(∀ i,C i→W.heap.size≤i∨A i)→J C 0 X) →
  CallsIn F n P gf (#[.func (.yield l) #[] #[]]++lb) W fun e Y=>(∃ v,e=.returned v)∧((∃ C,J C N Y)∨Z Y)
theorem wp_handsC {g:Operand} {ps:Array Tmp} {assign body:Code} {Q:Exit→Act→World→Prop} {a:Act} {w:World}
  (hro:F.round=none) (h1:1≤n) {gf:Nat} {lb:Array Value} (hg:a.eval g=.func (.func gf) #[] lb) (hFg:F.fn gf) (eg:∀ args w,(callFunc gf args).run P w=.ok (.enter gf args) w)
  {N:Nat} {Lk:Nat→Array Value→World→Prop} {A:Nat→Prop} (hh:HandsC F (n-1) P gf lb A N Lk w) (hsz:∀ k vs W,Lk k vs W→vs.size=ps.size)
  (J:(Nat→Prop)→Nat→World→Prop) (hJ:∀ C k X Y,J C k X→Same0 X Y→J C k Y) (hJp:∀ C k X l o o', J C k X→X.heap[l]? = some o→o.isCells=false→w.heap.size≤l→J C k (X.putObj l o')) (h0:∀ C X,Same0 w X→CellsOf C X→(∀ i,C i→w.heap.size≤i∨A i)→J C 0 X) (Z:World→Prop) (hZ:∀ X Y,Z X→Same0 X Y→Z Y) (hZp:∀ X l o o', Z X→X.heap[l]? = some o→o.isCells=false→w.heap.size≤l→Z (X.putObj l o'))
  (hround:∀ (l:Nat) (C:Nat→Prop) (k:Nat) (vs:Array Value) (W:World),k<N→w.heap.size≤l→l<W.heap.size→CellsOf C W→J C k W→Lk k vs W →
   assign.wpIn (F.inRound l) (n-1-1) P (Exit.then (fun a' Wa=>RndC w.heap.size C W Wa∧∀ o o', Wa.heap[l]? = some o→o.isCells=false→o'.isCells=false →
    body.wpIn (F.inRound l) (n-1-1) P (fun e _ Y=>(e=.normal∧RndC w.heap.size C (Wa.putObj l o') Y∧J C (k+1) Y)∨(e=.ret∧KeepsFrom w.heap.size (Wa.putObj l o') Y∧Z Y)) a' (Wa.putObj l o')) (fun _ _ _=>False))
    { tmps:=(ps.zip vs).foldl (fun t (p,v)=>t.setIfInBounds p v) a.tmps,defers:=[] } W)
  (hdone:∀ (D:Nat) (W:World),w.heap.size≤D→(∃ C,J C N W)→W.heap[D]? = some (.deferred (some []))→Q .normal { a with defers:={ target:=.collected D,args:=#[] } :: a.defers } W)
  (hstop:∀ (D:Nat) (W:World),w.heap.size≤D→Z W→W.heap[D]? = some (.deferred (some []))→Code.wpIn F n P .ret Q { a with defers:={ target:=.collected D,args:=#[] } :: a.defers } W) :
  (Code.rangeFunc g ps assign body).wpIn F n P Q a w:=by
 refine wpIn_rangeFunc fun fn hfn=>?_
 rw [hro]
 have hen:=run_enterLoop_outer (P:=P) (w:=w) fn a.tmps ps assign body
 obtain ⟨st,hst⟩:∃ st:LoopState→Option Code→Loop,st=fun s p=>{ state:=s,pending:=p,fn:=fn,tmps:=a.tmps,params:=ps,assign:=assign,body:=body,defers:=w.heap.size }:=⟨_,rfl⟩
 obtain ⟨W1,hW1⟩:∃ W1,W1=(w.alloc (.deferred (some []))).alloc (.loop (st .ready none)):=⟨_,rfl⟩
 have hs1:Same0 w W1:=by rw [hW1];exact ((Kept.refl _ w).alloc _).alloc _
 have hd1:W1.heap[w.heap.size]? = some (.deferred (some [])):=by
  rw [hW1];exact (Below.heap_alloc _ _ _ (by simp)).trans (World.alloc_heap_new w _)
 have hl1:W1.heap[w.heap.size+1]? = some (.loop (st .ready none)):=by
  have:=World.alloc_heap_new (w.alloc (.deferred (some []))) (.loop (st .ready none))
  rw [hW1];simpa using this
 refine ⟨w.heap.size+1,[{ target:=.collected w.heap.size,args:=#[] }],W1, { target:=.fn (.func gf) lb,args:=#[.func (.yield (w.heap.size+1)) #[] #[]] },W1,gf, #[.func (.yield (w.heap.size+1)) #[] #[]]++lb,W1,?_,?_,?_,?_,fun _=>h1,?_⟩
 ·rw [hen,hW1,hst]
 ·simp only [resolve,hg];simp [go_sem]
 ·intro f' hf'; simp [Target.leads] at hf'; subst hf'; exact hFg
 ·simp [invoke,go_sem,eg]
 ·have hcall:=hh (w.heap.size+1) (fun C k X=>J C k X∧X.heap[w.heap.size+1]? = some (.loop (st .ready none))∧X.heap[w.heap.size]? = some (.deferred (some []))) (fun X=>Z X∧X.heap[w.heap.size+1]? = some (.loop (st .done (some .ret)))∧X.heap[w.heap.size]? = some (.deferred (some []))) W1 hs1
   (fun C k X Y h hk=>⟨hJ C k X Y h.1 hk,hk.at0 h.2.1,hk.at0 h.2.2⟩) (fun X Y h hk=>⟨hZ X Y h.1 hk,hk.at0 h.2.1,hk.at0 h.2.2⟩) ?_ (fun C X hk hc hci=>⟨h0 C X (hs1.trans' hk) hc (fun i hi=>(hci i hi).imp (fun q=>Nat.le_trans hs1.size q) id),hk.at0 hl1,hk.at0 hd1⟩)
  ·refine hcall.mono ?_
   rintro e Y ⟨⟨v,rfl⟩,⟨C,hj,hl,hd⟩ | ⟨hz,hl,hd⟩⟩
   rotate_left
   ·have hend:=run_endLoop (P:=P) hl (by rw [hst];simp)
    rw [hst] at hend
    exact ⟨some .ret,_,hend,hstop w.heap.size _ (Nat.le_refl _) (hZp _ _ _ _ hz hl rfl (by omega)) ((World.putObj_heap_other (by omega)).trans hd)⟩
   have hend:=run_endLoop (P:=P) hl (by rw [hst];simp)
   rw [hst] at hend
   exact ⟨none,_,hend,hdone w.heap.size _ (Nat.le_refl _) ⟨C,hJp _ _ _ _ _ _ hj hl rfl (by omega)⟩ ((World.putObj_heap_other (by omega)).trans hd)⟩
  ·rintro C k vs X hk hcc ⟨hj,hl,hd⟩ hlk
   have hy:=run_yield (P:=P) (args:=vs) hl (by rw [hst];exact hsz k vs X hlk)
   rw [hst] at hy
   have hlX:w.heap.size+1<X.heap.size:=(Array.getElem?_eq_some_iff.1 hl).1
   refine ⟨fn,_,assign,body,hy,roundIn_of_wpIn hfn (wpIn_mono (hround (w.heap.size+1) C k vs X hk (by omega) hlX hcc hj hlk) ?_)⟩
   rintro e a' Wa hp
   cases e with
   | normal=>
    obtain ⟨hr,hb⟩:=hp
    have hla:=hr.recs.same _ _ (by omega) hl rfl
    have hda:=hr.recs.same _ _ (Nat.le_refl _) hd rfl
    have hlt:w.heap.size+1<Wa.heap.size:=(Array.getElem?_eq_some_iff.1 hla).1
    refine ⟨_,run_beginRound hla (by rw [hst]),wpIn_mono (hb _ (.loop { st .ready none with state:=.busy }) hla rfl rfl) ?_⟩
    rintro e2 a2 Y (⟨rfl,hr2,hj2⟩ | ⟨rfl,hr2,hz2⟩)
    rotate_left
    ·have hl2:=hr2.same _ _ (by omega) (World.putObj_heap_same (o:=.loop { st .ready none with state:=.busy }) hlt) rfl
     have hd2:=hr2.same _ _ (Nat.le_refl _) ((World.putObj_heap_other (o:=.loop { st .ready none with state:=.busy }) (by omega)).trans hda) rfl
     have hend:=run_endRound (P:=P) (some .ret) hl2
     rw [hst] at hend
     refine ⟨_,_,hend,.inr ⟨rfl,hZp _ _ _ _ hz2 hl2 rfl (by omega),?_,(World.putObj_heap_other (by omega)).trans hd2⟩⟩
     rw [hst];exact World.putObj_heap_same (Array.getElem?_eq_some_iff.1 hl2).1
    have hl2:=hr2.recs.same _ _ (by omega) (World.putObj_heap_same (o:=.loop { st .ready none with state:=.busy }) hlt) rfl
    have hd2:=hr2.recs.same _ _ (Nat.le_refl _) ((World.putObj_heap_other (o:=.loop { st .ready none with state:=.busy }) (by omega)).trans hda) rfl
    have hend:=run_endRound (P:=P) none hl2
    rw [hst] at hend
    refine ⟨_,_,hend,.inl ⟨rfl,⟨hJp _ _ _ _ _ _ hj2 hl2 rfl (by omega),?_,(World.putObj_heap_other (by omega)).trans hd2⟩,?_⟩⟩
    ·rw [hst];exact World.putObj_heap_same (Array.getElem?_eq_some_iff.1 hl2).1
    ·have c1:=hcc.kept hr.kp
     have p1:=c1.put (o' := .loop { st .ready none with state:=.busy }) hla rfl
     have c2:=(c1.kept p1).kept hr2.kp
     exact ((hr.kp.trans p1 (fun _ _ e=>e)).trans hr2.kp (fun _ _ e=>e)).trans (c2.put hl2 rfl) (fun _ _ e=>e)
   | _=>exact hp.elim
end
end Go.Proofs.Ytpimndkhoalaeaa
