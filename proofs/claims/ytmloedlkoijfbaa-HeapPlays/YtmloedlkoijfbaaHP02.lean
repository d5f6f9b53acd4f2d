import Derived.Test.YtmloedlkoijfbaaHP01
import Derived.OwnWalk
import Derived.Deep.RegionHeld3
namespace Go.Proofs.Ytmloedlkoijfbaa
set_option maxRecDepth 100000
set_option linter.unusedVariables false
open Go.RowKit
def mayB (n:Nat) (x:Nd):Bool:=
 decide (0≤x.1) && decide (x.2.1.length≤6) && decide (0≤x.2.2.1) && decide (x.2.2.1≤2) && x.2.1.all (fun z=>decide (0≤z) && decide (z<(n:Int))) &&
  (if x.2.2.2.1=true then decide (0≤x.2.2.2.2) && decide (x.2.2.2.2<(n:Int)) && decide (x.1=0) && decide (x.2.2.1=0) && decide (x.2.1.length=0) else decide (x.2.2.2.2=0))
theorem may_facts {n:Nat} {x:Nd} (h:mayB n x=true):0≤x.1∧x.2.1.length≤6∧0≤x.2.2.1∧x.2.2.1≤2∧(∀ z∈x.2.1,0≤z∧z<(n:Int))∧(x.2.2.2.1=true→0≤x.2.2.2.2∧x.2.2.2.2<(n:Int)∧x.1=0∧x.2.2.1=0∧x.2.1=[])∧(x.2.2.2.1=false→x.2.2.2.2=0):=by
 unfold mayB at h
 cases hp:x.2.2.2.1
 ·simp [hp] at h
  refine ⟨h.1.1.1.1.1,h.1.1.1.1.2,h.1.1.1.2,h.1.1.2,h.1.2,by simp,fun _=>h.2⟩
 ·simp [hp] at h
  refine ⟨h.1.1.1.1.1,h.1.1.1.1.2,h.1.1.1.2,h.1.1.2,h.1.2,fun _=>⟨h.2.1.1.1.1,h.2.1.1.1.2,h.2.1.1.2,h.2.1.2,h.2.2⟩,by simp⟩
theorem may_down {n:Nat} {x:Nd} (h:mayB n x=true):∀ z∈downL x,0≤z∧z<(n:Int):=by
 obtain ⟨_,_,_,_,h5,h6,_⟩:=may_facts h
 intro z hz
 unfold downL at hz
 split at hz
 ·rename_i hp
  simp at hz
  subst hz
  exact ⟨(h6 hp).1,(h6 hp).2.1⟩
 ·exact h5 z hz
theorem may_more {n m:Nat} {x:Nd} (h:mayB n x=true) (hn:n≤m):mayB m x=true:=by
 obtain ⟨h1,h2,h3,h4,h5,h6,h7⟩:=may_facts h
 unfold mayB
 have h8:x.2.1.all (fun z=>decide (0≤z) && decide (z<(m:Int)))=true:=by
  rw [List.all_eq_true]
  intro z hz
  have:=h5 z hz
  simp;omega
 cases hp:x.2.2.2.1
 ·simp [h1,h2,h3,h4,h8,h7 hp]
 ·obtain ⟨a,b,c,d,e⟩:=h6 hp
  simp [a,c,d,e]
  omega
theorem inl_of_may {l:List Nd} (h:∀ x∈l,mayB l.length x=true):InL l:=fun i hi z hz=>may_down (h _ (List.getElem_mem hi)) z hz
def NdC (B:Nat→Prop) (w:World) (b off:Nat) (x:Nd):Prop:=
 ∃ ao ac,w.cell? ⟨b,off,none⟩=some (.int .i64 x.1)∧w.cell? ⟨b,off+1,none⟩=some (.slice ao x.2.1.length ac)∧w.cell? ⟨b,off+2,none⟩=some (.int .i64 x.2.2.1)∧w.cell? ⟨b,off+3,none⟩=some (.bool x.2.2.2.1)∧w.cell? ⟨b,off+4,none⟩=some (.int .i64 x.2.2.2.2)∧ArgT w ao x.2.1 ac∧∀ a,ao=some a→B a.block
def NotI (w:World) (k:Nat):Prop:=∀ cur,w.heap[k]? ≠ some (.cells cur 3 (0,0))
theorem ArgT.kept' {w w' : World} {ao:Option Addr} {xs:List Int} {cap:Nat} {S:Nat→Prop} (h:ArgT w ao xs cap) (hk:Kept S w w') (hS:∀ a,ao=some a→¬ S a.block):ArgT w' ao xs cap:=by
 refine ⟨⟨h.1.at'.kept hk hS,h.1.cap', h.1.nil,h.1.size⟩,fun a e=>?_,fun a e=>?_⟩
 ·obtain ⟨cur,hc⟩:=h.2 a e
  exact ⟨cur,hk.at hc (hS a e)⟩
 ·obtain ⟨b,cur,e1,hc,hs,hm⟩:=h.own a e
  exact ⟨b,cur,e1,hk.at hc (by have:=hS a e;rw [e1] at this;exact this),hs,hm⟩
theorem ArgT.lt {w:World} {ao:Option Addr} {xs:List Int} {cap:Nat} (h:ArgT w ao xs cap) {a:Addr} (e:ao=some a):a.block<w.heap.size:=by
 obtain ⟨cur,hc⟩:=h.2 a e
 exact lt_of_at hc
theorem NdC.kept {B S:Nat→Prop} {w w' : World} {b off:Nat} {x:Nd} (h:NdC B w b off x) (hb:b<w.heap.size) (hk:Kept S w w') (nb:¬ S b) (hS:∀ k,B k→S k→NotI w k):NdC B w' b off x:=by
 obtain ⟨ao,ac,h0,h1,h2,h3,h4,h5,h6⟩:=h
 have t:∀ o,w'.cell? ⟨b,o,none⟩=w.cell? ⟨b,o,none⟩:=fun o=>hk.cell (p:=⟨b,o,none⟩) hb nb
 refine ⟨ao,ac,(t _).trans h0,(t _).trans h1,(t _).trans h2,(t _).trans h3,(t _).trans h4,h5.kept' hk (fun a e s=>?_),h6⟩
 obtain ⟨cur,hc⟩:=h5.2 a e
 exact hS _ (h6 a e) s cur hc
theorem NdC.mono {B B' : Nat→Prop} {w:World} {b off:Nat} {x:Nd} (h:NdC B w b off x) (hB:∀ k,k<w.heap.size→(∃ cur,w.heap[k]? = some (.cells cur 3 (0,0)))→B k→B' k):NdC B' w b off x:=by
 obtain ⟨ao,ac,h0,h1,h2,h3,h4,h5,h6⟩:=h
 exact ⟨ao,ac,h0,h1,h2,h3,h4,h5,fun a e=>hB _ (h5.lt e) (h5.2 a e) (h6 a e)⟩
structure HpB (B:Nat→Prop) (w:World) (h g room:Nat) (l:List Nd):Prop where
 box:w.heap[h]? = some (.cells #[.slice (some ⟨g,0,none⟩) room room,.int .i64 (l.length:Int)] 68 (0,0))
 blk:∃ cs,w.heap[g]? = some (.cells cs 47 (0,0))∧cs.size=room * 5
 rm1:1≤room
 rm2:room≤4000
 le:l.length≤room
 each:∀ i (hi:i<l.length),NdC B w g (i * 5) l[i]
 may:∀ x∈l,mayB l.length x=true
 ac:Ac l
theorem HpB.inl {B:Nat→Prop} {w:World} {h g room:Nat} {l:List Nd} (p:HpB B w h g room l):InL l:=inl_of_may p.may
theorem HpB.ne {B:Nat→Prop} {w:World} {h g room:Nat} {l:List Nd} (p:HpB B w h g room l):h≠g:=fun e=>by
 obtain ⟨cs,h1,_⟩:=p.blk
 rw [← e,p.box] at h1
 cases h1
theorem HpB.ltH {B:Nat→Prop} {w:World} {h g room:Nat} {l:List Nd} (p:HpB B w h g room l):h<w.heap.size:=lt_of_at p.box
theorem HpB.ltG {B:Nat→Prop} {w:World} {h g room:Nat} {l:List Nd} (p:HpB B w h g room l):g<w.heap.size:=by
 obtain ⟨cs,h1,_⟩:=p.blk
 exact lt_of_at h1
theorem HpB.kept {B S:Nat→Prop} {w w' : World} {h g room:Nat} {l:List Nd} (p:HpB B w h g room l) (hk:Kept S w w') (n1:¬ S h) (n2:¬ S g) (hS:∀ k,B k→S k→NotI w k):HpB B w' h g room l:=by
 refine ⟨hk.at p.box n1,?_,p.rm1,p.rm2,p.le,fun i hi=>(p.each i hi).kept p.ltG hk n2 hS,p.may,p.ac⟩
 obtain ⟨cs,h1,h2⟩:=p.blk
 exact ⟨cs,hk.at h1 n2,h2⟩
theorem HpB.same {B:Nat→Prop} {w w' : World} {h g room:Nat} {l:List Nd} (p:HpB B w h g room l) (hk:Same0 w w'):HpB B w' h g room l:=p.kept hk (fun f=>f) (fun f=>f) (fun _ _ f=>f.elim)
theorem HpB.mono {B B' : Nat→Prop} {w:World} {h g room:Nat} {l:List Nd} (p:HpB B w h g room l) (hB:∀ k,k<w.heap.size→(∃ cur,w.heap[k]? = some (.cells cur 3 (0,0)))→B k→B' k):HpB B' w h g room l:=
 ⟨p.box,p.blk,p.rm1,p.rm2,p.le,fun i hi=>(p.each i hi).mono hB,p.may,p.ac⟩
theorem HpB.cells {B:Nat→Prop} {w:World} {h g room:Nat} {l:List Nd} (p:HpB B w h g room l):w.cell? ⟨h,0,none⟩=some (.slice (some ⟨g,0,none⟩) room room)∧w.cell? ⟨h,1,none⟩=some (.int .i64 (l.length:Int)):=⟨cellAt p.box 0,cellAt p.box 1⟩
theorem HpB.free {B:Nat→Prop} {w:World} {h g room:Nat} {l:List Nd} (p:HpB B w h g room l):(∀ o,w.frozen? ⟨h,o,none⟩=false)∧∀ o,w.frozen? ⟨g,o,none⟩=false:=by
 obtain ⟨cs,h1,_⟩:=p.blk
 exact ⟨fun o=>frozenAt p.box o,fun o=>frozenAt h1 o⟩
theorem HpB.there {B:Nat→Prop} {w:World} {h g room:Nat} {l:List Nd} (p:HpB B w h g room l) {i:Nat} (hi:i<room):∃ u0 u1 u2 u3 u4,w.cell? ⟨g,i * 5,none⟩=some u0∧w.cell? ⟨g,i * 5+1,none⟩=some u1∧w.cell? ⟨g,i * 5+2,none⟩=some u2∧w.cell? ⟨g,i * 5+3,none⟩=some u3∧w.cell? ⟨g,i * 5+4,none⟩=some u4:=by
 obtain ⟨cs,h1,h2⟩:=p.blk
 have t:∀ o,o<cs.size→w.cell? ⟨g,o,none⟩=some cs[o]! := fun o ho=>by rw [cellAt h1];simp [ho]
 exact ⟨_,_,_,_,_,t _ (by omega),t _ (by omega),t _ (by omega),t _ (by omega),t _ (by omega)⟩
theorem box5 {w:World} {b:Nat} {v0 v1 v2 v3 v4:Value} {t:TypeId} (h:w.heap[b]? = some (.cells #[v0,v1,v2,v3,v4] t (0,0))):w.cell? ⟨b,0,none⟩=some v0∧w.cell? ⟨b,1,none⟩=some v1∧w.cell? ⟨b,2,none⟩=some v2∧w.cell? ⟨b,3,none⟩=some v3∧w.cell? ⟨b,4,none⟩=some v4:=
 ⟨cellAt h 0,cellAt h 1,cellAt h 2,cellAt h 3,cellAt h 4⟩
theorem free5 {w:World} {b:Nat} {cs:Array Value} {t:TypeId} (h:w.heap[b]? = some (.cells cs t (0,0))):w.frozen? ⟨b,0,none⟩=false∧w.frozen? ⟨b,1,none⟩=false∧w.frozen? ⟨b,2,none⟩=false∧w.frozen? ⟨b,3,none⟩=false∧w.frozen? ⟨b,4,none⟩=false:=
 ⟨frozenAt h 0,frozenAt h 1,frozenAt h 2,frozenAt h 3,frozenAt h 4⟩
def put5 (w:World) (g off:Nat) (v0 v1 v2 v3 v4:Value):World:=
 ((((w.setCell ⟨g,off,none⟩ v0).setCell ⟨g,off+1,none⟩ v1).setCell ⟨g,off+2,none⟩ v2).setCell ⟨g,off+3,none⟩ v3).setCell ⟨g,off+4,none⟩ v4
theorem put5_at {w:World} {g off:Nat} {v0 v1 v2 v3 v4:Value} {cs:Array Value} {t:TypeId} {fr:Nat × Nat} (h:w.heap[g]? = some (.cells cs t fr)):(put5 w g off v0 v1 v2 v3 v4).heap[g]? = some (.cells (((((cs.setIfInBounds off v0).setIfInBounds (off+1) v1).setIfInBounds (off+2) v2).setIfInBounds (off+3) v3).setIfInBounds (off+4) v4) t fr):=
 setAt (setAt (setAt (setAt (setAt h _ _) _ _) _ _) _ _) _ _
theorem put5_kept (w:World) (g off:Nat) (v0 v1 v2 v3 v4:Value):Kept (fun k=>k=g) w (put5 w g off v0 v1 v2 v3 v4):=by
 have t:∀ (w' : World) (o:Nat) (v:Value),Kept (fun k=>k=g) w w' → Kept (fun k=>k=g) w (w'.setCell ⟨g,o,none⟩ v):=fun w' o v h=>Kept.setCell (S:=fun k=>k=g) h (p:=⟨g,o,none⟩) (fun _=>rfl) v
 exact t _ _ _ (t _ _ _ (t _ _ _ (t _ _ _ (t _ _ _ (Kept.refl _ w)))))
theorem put5_new {w:World} {g off:Nat} {v0 v1 v2 v3 v4:Value} {cs:Array Value} {t:TypeId} {fr:Nat × Nat} (h:w.heap[g]? = some (.cells cs t fr)) (hs:off+5≤cs.size):(put5 w g off v0 v1 v2 v3 v4).cell? ⟨g,off,none⟩=some v0∧(put5 w g off v0 v1 v2 v3 v4).cell? ⟨g,off+1,none⟩=some v1∧(put5 w g off v0 v1 v2 v3 v4).cell? ⟨g,off+2,none⟩=some v2∧(put5 w g off v0 v1 v2 v3 v4).cell? ⟨g,off+3,none⟩=some v3∧(put5 w g off v0 v1 v2 v3 v4).cell? ⟨g,off+4,none⟩=some v4:=by
 have q:=put5_at (v0:=v0) (v1:=v1) (v2:=v2) (v3:=v3) (v4:=v4) (off:=off) h
 refine ⟨?_,?_,?_,?_,?_⟩ <;> rw [cellAt q] <;> simp [Array.getElem?_setIfInBounds] <;> omega
theorem put5_old {w:World} {g off:Nat} {v0 v1 v2 v3 v4:Value} {cs:Array Value} {t:TypeId} {fr:Nat × Nat} (h:w.heap[g]? = some (.cells cs t fr)) {o:Nat} (ho:o<off∨off+5≤o):(put5 w g off v0 v1 v2 v3 v4).cell? ⟨g,o,none⟩=w.cell? ⟨g,o,none⟩:=by
 have q:=put5_at (v0:=v0) (v1:=v1) (v2:=v2) (v3:=v3) (v4:=v4) (off:=off) h
 rw [cellAt q,cellAt h,Array.getElem?_setIfInBounds,if_neg (by omega),Array.getElem?_setIfInBounds,if_neg (by omega),Array.getElem?_setIfInBounds,if_neg (by omega),Array.getElem?_setIfInBounds,if_neg (by omega),Array.getElem?_setIfInBounds,if_neg (by omega)]
theorem put5_nodes {B B' : Nat→Prop} {w:World} {g room:Nat} {l:List Nd} (hb:∃ cs,w.heap[g]? = some (.cells cs 47 (0,0))∧cs.size=room * 5) (hc:∀ i (hi:i<l.length),NdC B w g (i * 5) l[i]) {i:Nat} (hi:i<room) {x:Nd} {ao:Option Addr} {ac:Nat} (ha:ArgT w ao x.2.1 ac) (hB:∀ a,ao=some a→B' a.block) (hBB:∀ k,B k→B' k) :
  let w' := put5 w g (i * 5) (.int .i64 x.1) (.slice ao x.2.1.length ac) (.int .i64 x.2.2.1) (.bool x.2.2.2.1) (.int .i64 x.2.2.2.2)
  NdC B' w' g (i * 5) x∧(∃ cs,w'.heap[g]? = some (.cells cs 47 (0,0))∧cs.size=room * 5)∧∀ j (hj:j<l.length),j≠i→NdC B' w' g (j * 5) l[j]:=by
 obtain ⟨cs,h1,h2⟩:=hb
 have hk:=put5_kept w g (i * 5) (.int .i64 x.1) (.slice ao x.2.1.length ac) (.int .i64 x.2.2.1) (.bool x.2.2.2.1) (.int .i64 x.2.2.2.2)
 have gi:∀ k,k=g→NotI w k:=fun k e cur h=>by rw [e,h1] at h;cases h
 have ka:∀ {ao:Option Addr} {xs:List Int} {ac:Nat},ArgT w ao xs ac→ArgT (put5 w g (i * 5) (.int .i64 x.1) (.slice ao x.2.1.length ac) (.int .i64 x.2.2.1) (.bool x.2.2.2.1) (.int .i64 x.2.2.2.2)) ao xs ac:=fun h=>h.kept (put5_kept _ _ _ _ _ _ _ _) (fun k e=>gi k e)
 refine ⟨?_,?_,fun j hj hne=>?_⟩
 ·obtain ⟨q0,q1,q2,q3,q4⟩:=put5_new (v0:=.int .i64 x.1) (v1:=.slice ao x.2.1.length ac) (v2:=.int .i64 x.2.2.1) (v3:=.bool x.2.2.2.1) (v4:=.int .i64 x.2.2.2.2) h1 (show i * 5+5≤cs.size by omega)
  exact ⟨ao,ac,q0,q1,q2,q3,q4,ha.kept hk gi,hB⟩
 ·exact ⟨_,put5_at h1,by simpa using h2⟩
 ·obtain ⟨bo,bc,q0,q1,q2,q3,q4,q5,q6⟩:=hc j hj
  have t:=fun {o:Nat} (ho:o<i * 5∨i * 5+5≤o)=>put5_old (v0:=.int .i64 x.1) (v1:=.slice ao x.2.1.length ac) (v2:=.int .i64 x.2.2.1) (v3:=.bool x.2.2.2.1) (v4:=.int .i64 x.2.2.2.2) h1 ho
  exact ⟨bo,bc,(t (by omega)).trans q0,(t (by omega)).trans q1,(t (by omega)).trans q2,(t (by omega)).trans q3,(t (by omega)).trans q4,q5.kept hk gi,fun a e=>hBB _ (q6 a e)⟩
end Go.Proofs.Ytmloedlkoijfbaa
namespace Go.Proofs.Ytmloedlkoijfbaa
set_option maxRecDepth 100000
set_option linter.unusedVariables false
open Go.RowKit
attribute [local go_sem ↓] Go.wp_at_zero Go.wp_at_succ
def insB (n:Int) (xs:List Int):Bool:=xs.all (fun z=>decide (0≤z) && decide (z<n))
theorem insB_iff {n:Int} {xs:List Int}:insB n xs=true ↔ ∀ z∈xs,0≤z∧z<n:=by
 unfold insB;simp [List.all_eq_true]
theorem insB_no {n:Int} {xs:List Int} {k:Nat} (hk:k<xs.length) (h:¬ (0≤xs[k]∧xs[k]<n)):insB n xs=false:=by
 cases e:insB n xs
 ·rfl
 ·exact absurd (insB_iff.1 e _ (List.getElem_mem hk)) h
set_option maxHeartbeats 1000000 in
theorem inside_any {w:World} {ao:Option Addr} {xs:List Int} (cap:Nat) (hx:IntsAt w ao xs) (hm:xs.length≤1000) (n:Int) :
  Calls Try.prog 49 #[.int .i64 n,.slice ao xs.length cap] w fun e w' => e=.returned (.bool (insB n xs))∧w' = w:=by
 have H1:Hid (∀ k (hk:k<xs.length),¬ (0≤xs[k]∧xs[k]<n)→insB n xs=false):=fun k hk h=>insB_no hk h
 go_enter Try.func49,Try.ntmps49
 go_wp2
 go_loop [9] (fun i=>∃ k:Nat,k≤xs.length∧i=.int .i64 k∧Hid (∀ j (hj:j<xs.length),j<k→0≤xs[j]∧xs[j]<n)) (fun i=>xs.length-(intOf i).toNat)
 case atStart=>exact ⟨0,Nat.zero_le _,rfl,fun j _ hj=>absurd hj (Nat.not_lt_zero _)⟩
 case round=>
  obtain ⟨k,hk,rfl,hall⟩:=hrel
  by_cases hlt:k<xs.length
  ·obtain ⟨b,off,rfl,hb,hc⟩:=hx.get hlt
   have i1:(0:Int)≤(k:Int):=by omega
   have i2:(k:Int)<(xs.length:Int):=by omega
   clear hx
   by_cases h1:xs[k]<0
   ·have H2:Hid (insB n xs=false):=H1.out k hlt (by omega)
    clear H1
    go_wp2
    go_ret
    exact ⟨ret_bool H2.out.symm,rfl⟩
   ·by_cases h2:n≤xs[k]
    ·have H2:Hid (insB n xs=false):=H1.out k hlt (by omega)
     clear H1
     go_wp2
     go_ret
     exact ⟨ret_bool H2.out.symm,rfl⟩
    ·go_wp2
     go_round
     case rel=>exact ⟨k+1,by omega,by go_num,fun j hj hjk=>by
      by_cases e:j=k
      ·subst e;omega
      ·exact hall.out j hj (by omega)⟩
     case measure=>simp [intOf];omega
  ·obtain rfl:k=xs.length:=by omega
   have H2:Hid (insB n xs=true):=insB_iff.2 (fun z hz=>by
    obtain ⟨j,hj,rfl⟩:=List.mem_iff_getElem.1 hz
    exact hall.out j hj hj)
   clear hall H1
   go_wp2
   go_ret
   exact ⟨ret_bool H2.out.symm,rfl⟩
def refE (n:Int) (xs:List Int):Int:=if insB n xs=true then 0 else 112
set_option maxHeartbeats 1000000 in
theorem refusal_hp {B:Nat→Prop} {w:World} {h g room:Nat} {l:List Nd} (p:HpB B w h g room l) {ao:Option Addr} {xs:List Int} (cap:Nat) (hx:IntsAt w ao xs) (hm:xs.length≤1000) :
  Calls Try.prog 50 #[.pointer (some ⟨h,0,none⟩),.slice ao xs.length cap] w fun e w' => e=.returned (.int .i64 (refE (l.length:Int) xs))∧w' = w:=by
 have C:=inside_any cap hx hm (l.length:Int)
 obtain ⟨c0,c1⟩:=p.cells
 clear p hx
 cases hi:insB (l.length:Int) xs
 ·have H:Hid (refE (l.length:Int) xs=112):=by show _=_;rw [refE,hi];rfl
  rw [hi] at C
  go_enter Try.func50,Try.ntmps50
  go_wp2_with (first | (go_at_call 49;refine C.mono ?_;rintro e w' ⟨rfl,rfl⟩))
  go_ret
  exact ⟨ret_int H.out.symm,rfl⟩
 ·have H:Hid (refE (l.length:Int) xs=0):=by show _=_;rw [refE,hi];rfl
  rw [hi] at C
  go_enter Try.func50,Try.ntmps50
  go_wp2_with (first | (go_at_call 49;refine C.mono ?_;rintro e w' ⟨rfl,rfl⟩))
  go_ret
  exact ⟨ret_int H.out.symm,rfl⟩
theorem set6_kept (w:World) (a b:Nat) (v v0 v1 v2 v3 v4:Value):Kept (fun k=>k=a∨k=b) w (put5 (w.setCell ⟨a,1,none⟩ v) b 0 v0 v1 v2 v3 v4):=
 (Kept.setCell (S:=fun k=>k=a∨k=b) (Kept.refl _ w) (p:=⟨a,1,none⟩) (fun _=>.inl rfl) v).trans (put5_kept _ _ _ _ _ _ _ _) (fun _ _ e=>.inr e)
abbrev nodeV (x:Nd) (ao:Option Addr) (ac:Nat):Value:=.agg #[.int .i64 x.1,.slice ao x.2.1.length ac,.int .i64 x.2.2.1,.bool x.2.2.2.1,.int .i64 x.2.2.2.2]
set_option maxHeartbeats 1000000 in
theorem copied_any {w:World} {x:Nd} {ao:Option Addr} {ac:Nat} (hx:Arg w ao x.2.1 ac) (hm:x.2.1.length≤1000) :
  Calls Try.prog 46 #[nodeV x ao ac] w fun e w' => ∃ bo bc,e=.returned (nodeV x bo bc)∧ArgT w' bo x.2.1 bc∧(∀ a,bo=some a→w.heap.size≤a.block)∧Same0 w w' := by
 have k1:Same0 w (w.alloc (.cells #[.int .i64 x.1,.slice ao x.2.1.length ac,.int .i64 x.2.2.1,.bool x.2.2.2.1,.int .i64 x.2.2.2.2] 47)):=(Kept.refl _ w).alloc _
 have k2:Same0 w ((w.alloc (.cells #[.int .i64 x.1,.slice ao x.2.1.length ac,.int .i64 x.2.2.1,.bool x.2.2.2.1,.int .i64 x.2.2.2.2] 47)).alloc (.cells #[.int .i64 0,.slice none 0 0,.int .i64 0,.bool false,.int .i64 0] 47)):=k1.alloc _
 have C:=cloneI_any (cap:=ac) (show Arg _ ao x.2.1 ac from ⟨hx.at'.same k2,hx.cap', hx.nil,hx.size⟩)
 simp only [World.size_alloc] at C
 have hb1:((w.alloc (.cells #[.int .i64 x.1,.slice ao x.2.1.length ac,.int .i64 x.2.2.1,.bool x.2.2.2.1,.int .i64 x.2.2.2.2] 47)).alloc (.cells #[.int .i64 0,.slice none 0 0,.int .i64 0,.bool false,.int .i64 0] 47)).heap[w.heap.size]? = some (.cells #[.int .i64 x.1,.slice ao x.2.1.length ac,.int .i64 x.2.2.1,.bool x.2.2.2.1,.int .i64 x.2.2.2.2] 47 (0,0)):=(Below.heap_alloc _ _ _ (by simp)).trans (heap_alloc_new w _)
 have hb2:=heap_alloc_new (w.alloc (.cells #[.int .i64 x.1,.slice ao x.2.1.length ac,.int .i64 x.2.2.1,.bool x.2.2.2.1,.int .i64 x.2.2.2.2] 47)) (.cells #[.int .i64 0,.slice none 0 0,.int .i64 0,.bool false,.int .i64 0] 47)
 have HB:Hid (∀ ww,Same0 ((w.alloc (.cells #[.int .i64 x.1,.slice ao x.2.1.length ac,.int .i64 x.2.2.1,.bool x.2.2.2.1,.int .i64 x.2.2.2.2] 47)).alloc (.cells #[.int .i64 0,.slice none 0 0,.int .i64 0,.bool false,.int .i64 0] 47)) ww→ww.heap[w.heap.size]? = some (.cells #[.int .i64 x.1,.slice ao x.2.1.length ac,.int .i64 x.2.2.1,.bool x.2.2.2.1,.int .i64 x.2.2.2.2] 47 (0,0))∧ww.heap[w.heap.size+1]? = some (.cells #[.int .i64 0,.slice none 0 0,.int .i64 0,.bool false,.int .i64 0] 47 (0,0))):=fun ww hk=>⟨hk.at0 hb1,by have:=hk.at0 hb2;simpa using this⟩
 have HK:Hid (∀ ww,Same0 ((w.alloc (.cells #[.int .i64 x.1,.slice ao x.2.1.length ac,.int .i64 x.2.2.1,.bool x.2.2.2.1,.int .i64 x.2.2.2.2] 47)).alloc (.cells #[.int .i64 0,.slice none 0 0,.int .i64 0,.bool false,.int .i64 0] 47)) ww→Same0 w ww):=fun ww hk=>k2.trans' hk
 clear hb1 hb2 k1 k2 hx
 go_enter Try.func46,Try.ntmps46
 go_upto_region 2 with (first | (go_at_call 64;refine C.mono ?_;rintro e w1 ⟨v,rfl,hr,hk⟩;obtain ⟨bo,bc,rfl,ha,hbb⟩:=hr.arg (by omega);obtain ⟨q1,q2⟩:=HB.out w1 hk;obtain ⟨a0,a1,a2,a3,a4⟩:=box5 q1;obtain ⟨b0,b1,b2,b3,b4⟩:=box5 q2;obtain ⟨-,f1, -, -, -⟩:=free5 q1;obtain ⟨g0,g1,g2,g3,g4⟩:=free5 q2;clear q1 q2))
 go_wp2
 have K6:=set6_kept w1 w.heap.size (w.heap.size+1) (.slice bo x.2.1.length bc) (.int .i64 x.1) (.slice bo x.2.1.length bc) (.int .i64 x.2.2.1) (.bool x.2.2.2.1) (.int .i64 x.2.2.2.2)
 have R1:=ha.kept' K6 (fun a e s=>by have:=hbb a e;omega)
 have R2:Same0 w _:=(HK.out w1 hk).trans K6 (fun i hi e=>by omega)
 exact bodyPost_ret (v:=nodeV x bo bc) (by simp [results,Try.results46,go_sem,b0,b1,b2,b3,b4]) rfl ⟨bo,bc,rfl,R1,fun a e=>by have:=hbb a e;omega,R2⟩
theorem info_node:(Try.prog.info? 47).map (fun i=>(i.zero,i.size,i.bytes))=some (some (.agg #[.int .i64 0,.slice none 0 0,.int .i64 0,.bool false,.int .i64 0]),5,56):=by kernel_rfl
theorem Ac.nil:Ac []:=⟨fun _=>0,fun i j e=>absurd e.1 (Nat.not_lt_zero _)⟩
set_option maxHeartbeats 1000000 in
theorem hnew_no (n:Int) (w:World) (hn:n<1∨4000<n):Calls Try.prog 8 #[.int .i64 n] w fun e w' => e=.returned (.tuple #[.pointer none,.int .i64 110])∧w' = w:=by
 by_cases h1:n<1
 ·go_enter Try.func8,Try.ntmps8
  go_wp2
  go_ret2
  exact ⟨rfl,rfl⟩
 ·have h2:4000<n:=by omega
  go_enter Try.func8,Try.ntmps8
  go_wp2
  go_ret2
  exact ⟨rfl,rfl⟩
set_option maxHeartbeats 1000000 in
theorem hnew_yes (n:Nat) (w:World) (h1:1≤n) (h2:n≤4000):Calls Try.prog 8 #[.int .i64 (n:Int)] w fun e w' => ∃ h g,e=.returned (.tuple #[.pointer (some ⟨h,0,none⟩),.int .i64 0])∧HpB (fun _=>False) w' h g n []∧Same0 w w' ∧ w.heap.size≤h∧w.heap.size≤g:=by
 obtain ⟨i,hi,hz0,hz1,hz2⟩:=info_parts info_node
 have i1:(1:Int)≤(n:Int):=by omega
 have i2:(n:Int)≤4000:=by omega
 go_enter Try.func8,Try.ntmps8
 go_wp2_with (first | (at_make;refine wpList_make_full _ rfl _ _ 32 rfl w.heap.size 47 i _ 5 Try.underlying32 hi hz0 hz1 _ _ _ _ n rfl rfl rfl rfl (by rw [hz2];omega) (by unfold maxLen;omega) (Nat.le_refl _) ?_;intro w1 hown hgrow))
 go_ret2
 obtain ⟨hl,hr⟩:=hown
 rcases hr with ⟨e,h0⟩ | ⟨g,cap,cur,e,hb,hg,hle,hml,hsz,ht⟩
 ·cases e
 ·simp only [Value.slice.injEq,Option.some.injEq,Addr.mk.injEq,and_true,true_and] at e
  obtain ⟨rfl,rfl⟩:=e
  have K:Same0 w w1:=Same0.grown (Kept.refl _ w) hgrow
  refine ⟨w1.heap.size,w.heap.size,rfl,⟨heap_alloc_new w1 _,⟨cur,(Below.heap_alloc _ _ _ (lt_of_at hg)).trans hg,hsz⟩,h1,h2,Nat.zero_le _,fun i hi=>absurd hi (Nat.not_lt_zero _),fun x hx=>absurd hx (by simp),Ac.nil⟩,K.alloc _,K.size,Nat.le_refl _⟩
set_option maxHeartbeats 1000000 in
theorem room_any {B:Nat→Prop} {w:World} {h g room:Nat} {l:List Nd} (p:HpB B w h g room l):Calls Try.prog 27 #[.pointer (some ⟨h,0,none⟩)] w fun e w' => e=.returned (.int .i64 (room:Int))∧w' = w:=by
 obtain ⟨c0,c1⟩:=p.cells
 clear p
 go_enter Try.func27,Try.ntmps27
 go_wp2
 go_ret
 exact ⟨rfl,rfl⟩
set_option maxHeartbeats 1000000 in
theorem used_any {B:Nat→Prop} {w:World} {h g room:Nat} {l:List Nd} (p:HpB B w h g room l):Calls Try.prog 17 #[.pointer (some ⟨h,0,none⟩)] w fun e w' => e=.returned (.int .i64 (l.length:Int))∧w' = w:=by
 obtain ⟨c0,c1⟩:=p.cells
 clear p
 go_enter Try.func17,Try.ntmps17
 go_wp2
 go_ret
 exact ⟨rfl,rfl⟩
theorem ints_one (w:World) (z:Int):IntsAt (w.alloc (.cells #[.int .i64 z] 3)) (some ⟨w.heap.size,0,none⟩) [z]:=
 .inr ⟨w.heap.size,0,rfl,by simp,fun i hi=>by
  have hi' : i<1:=hi
  match i,hi' with
  | 0,_=>exact cellAt (heap_alloc_new w _) 0⟩
theorem ints_two (w:World) (z y:Int):IntsAt (w.alloc (.cells #[.int .i64 z,.int .i64 y] 3)) (some ⟨w.heap.size,0,none⟩) [z,y]:=
 .inr ⟨w.heap.size,0,rfl,by simp,fun i hi=>by
  have hi' : i<2:=hi
  match i,hi' with
  | 0,_=>exact cellAt (heap_alloc_new w _) 0
  | 1,_=>exact cellAt (heap_alloc_new w _) 1⟩
theorem refE_one {n:Nat} {a:Int} (h:0≤a∧a<(n:Int)):refE (n:Int) [a]=0:=by
 unfold refE;rw [if_pos (insB_iff.2 (by simpa using h))]
theorem refE_no {n:Nat} {a:Int} (h:¬ (0≤a∧a<(n:Int))):refE (n:Int) [a]=112:=by
 unfold refE;rw [if_neg (fun e=>h (by simpa using insB_iff.1 e))]
set_option maxHeartbeats 1000000 in
theorem hat_no {B:Nat→Prop} {w:World} {h g room:Nat} {l:List Nd} (p:HpB B w h g room l) (a:Int) (ha:¬ (0≤a∧a<(l.length:Int))):Calls Try.prog 26 #[.pointer (some ⟨h,0,none⟩),.int .i64 a] w fun e w' => e=.returned (.tuple #[nodeV (0,[],0,false,0) none 0,.int .i64 112])∧Same0 w w' := by
 obtain ⟨W0,hW0⟩:∃ W0,W0=w.alloc (.cells #[.int .i64 0,.slice none 0 0,.int .i64 0,.bool false,.int .i64 0] 47):=⟨_,rfl⟩
 have k0:Same0 w W0:=by rw [hW0];exact (Kept.refl _ w).alloc _
 have hb:W0.heap[w.heap.size]? = some (.cells #[.int .i64 0,.slice none 0 0,.int .i64 0,.bool false,.int .i64 0] 47 (0,0)):=by rw [hW0];exact heap_alloc_new w _
 have k1:Same0 W0 (W0.alloc (.cells #[.int .i64 a] 3)):=(Kept.refl _ _).alloc _
 have C:=refusal_hp ((p.same k0).same k1) 1 (ints_one W0 a) (by simp)
 rw [refE_no ha] at C
 obtain ⟨b0,b1,b2,b3,b4⟩:=box5 (k1.at0 hb)
 obtain ⟨g0,g1,g2,g3,g4⟩:=free5 (k1.at0 hb)
 have K:Hid (Same0 w (put5 (W0.alloc (.cells #[.int .i64 a] 3)) w.heap.size 0 (.int .i64 0) (.slice none 0 0) (.int .i64 0) (.bool false) (.int .i64 0))):=(k0.trans' k1).trans (put5_kept _ _ _ _ _ _ _ _) (fun i hi e=>by omega)
 clear p ha k0 hb k1
 go_enter Try.func26,Try.ntmps26
 go_upto_region 1 with fail
 rw [← hW0]
 clear hW0
 go_wp2_with (first | (go_at_call 50;refine C.mono ?_;rintro e w' ⟨rfl,rfl⟩))
 exact bodyPost_ret (v:=.tuple #[nodeV (0,[],0,false,0) none 0,.int .i64 112]) (by simp [results,Try.results26,go_sem,b0,b1,b2,b3,b4]) rfl ⟨rfl,K.out⟩
def NdOut (w w' : World) (x:Nd) (bo:Option Addr) (bc:Nat):Prop:=ArgT w' bo x.2.1 bc∧(∀ a,bo=some a→w.heap.size≤a.block)∧Same0 w w'
set_option maxHeartbeats 2000000 in
theorem hat_yes {B:Nat→Prop} {w:World} {h g room:Nat} {l:List Nd} (p:HpB B w h g room l) (i:Nat) (hi:i<l.length):Calls Try.prog 26 #[.pointer (some ⟨h,0,none⟩),.int .i64 (i:Int)] w fun e w' => ∃ bo bc,e=.returned (.tuple #[nodeV l[i] bo bc,.int .i64 0])∧NdOut w w' l[i] bo bc:=by
 obtain ⟨W0,hW0⟩:∃ W0,W0=w.alloc (.cells #[.int .i64 0,.slice none 0 0,.int .i64 0,.bool false,.int .i64 0] 47):=⟨_,rfl⟩
 have k0:Same0 w W0:=by rw [hW0];exact (Kept.refl _ w).alloc _
 have hb:W0.heap[w.heap.size]? = some (.cells #[.int .i64 0,.slice none 0 0,.int .i64 0,.bool false,.int .i64 0] 47 (0,0)):=by rw [hW0];exact heap_alloc_new w _
 have hz:W0.heap.size=w.heap.size+1:=by rw [hW0];simp
 have k1:Same0 W0 (W0.alloc (.cells #[.int .i64 (i:Int)] 3)):=(Kept.refl _ _).alloc _
 have p1:=(p.same k0).same k1
 have C:=refusal_hp p1 1 (ints_one W0 (i:Int)) (by simp)
 rw [refE_one (by omega)] at C
 obtain ⟨c0,c1⟩:=p1.cells
 obtain ⟨ao,ac,n0,n1,n2,n3,n4,n5,n6⟩:=p1.each i hi
 have hm:=(may_facts (p.may _ (List.getElem_mem hi))).2.1
 have CC:=copied_any (x:=l[i]) (ac:=ac) n5.1 (by omega)
 have i1:(0:Int)≤(i:Int):=by omega
 have i2:(i:Int)<(room:Int):=by have:=p.le;omega
 have HB:Hid (∀ ww,Same0 (W0.alloc (.cells #[.int .i64 (i:Int)] 3)) ww→ww.heap[w.heap.size]? = some (.cells #[.int .i64 0,.slice none 0 0,.int .i64 0,.bool false,.int .i64 0] 47 (0,0))):=fun ww hk=>(k1.trans' hk).at0 hb
 have HK:Hid (∀ ww,Same0 (W0.alloc (.cells #[.int .i64 (i:Int)] 3)) ww→Same0 w ww):=fun ww hk=>(k0.trans' k1).trans' hk
 have HZ:Hid (w.heap.size<W0.heap.size):=by show _<_;omega
 clear p p1 k0 hb k1 hz n5 n6
 go_enter Try.func26,Try.ntmps26
 go_upto_region 1 with fail
 rw [← hW0]
 clear hW0
 go_upto_region 4 with (first | (go_at_call 50;refine C.mono ?_;rintro e w' ⟨rfl,rfl⟩))
 clear C
 go_wp2_with (first | (go_at_call 46;refine CC.mono ?_;rintro e w1 ⟨bo,bc,rfl,ha,hbb,hk⟩;have q:=HB.out w1 hk;obtain ⟨b0,b1,b2,b3,b4⟩:=box5 q;obtain ⟨g0,g1,g2,g3,g4⟩:=free5 q;clear q CC n0 n1 n2 n3 n4 c0 c1))
 have hlt:w.heap.size<(W0.alloc (.cells #[.int .i64 (i:Int)] 3)).heap.size:=by have:=HZ.out;simp;omega
 have hx:∀ a,bo=some a→w.heap.size<a.block:=fun a e=>by have:=hbb a e;omega
 have K5:=put5_kept w1 w.heap.size 0 (.int .i64 l[i].1) (.slice bo l[i].2.1.length bc) (.int .i64 l[i].2.2.1) (.bool l[i].2.2.2.1) (.int .i64 l[i].2.2.2.2)
 have R1:=ha.kept' K5 (fun a e s=>by have:=hx a e;omega)
 have R2:Same0 w _:=(HK.out w1 hk).trans K5 (fun i hi e=>by omega)
 exact bodyPost_ret (v:=.tuple #[nodeV l[i] bo bc,.int .i64 0]) (by simp [results,Try.results26,go_sem,b0,b1,b2,b3,b4]) rfl ⟨bo,bc,rfl,R1,fun a e=>Nat.le_of_lt (hx a e),R2⟩
def Ind (l:List Nd):Nat→Nat→Nat→Prop
 | 0,a,b=>a=b
 | k+1,a,b=>∃ h:a<l.length,l[a].2.2.2.1=true∧Ind l k l[a].2.2.2.2.toNat b
def Res (l:List Nd) (a b:Nat):Prop:=(∃ k,Ind l k a b)∧∃ h:b<l.length,l[b].2.2.2.1=false
theorem Ind.uniq {l:List Nd}:∀ {k k' a b b' : Nat},Ind l k a b→Ind l k' a b' → (∃ h:b<l.length,l[b].2.2.2.1=false)→(∃ h:b' < l.length,l[b'].2.2.2.1=false)→b=b'
 | 0,0,a,b,b', h,h', _,_=>by cases h;cases h'; rfl
 | 0,k' + 1,a,b,b', h,⟨_,h1,_⟩,⟨_,q⟩,_=>by cases h;rw [h1] at q;cases q
 | k+1,0,a,b,b', ⟨_,h1,_⟩,h', _,⟨_,q⟩=>by cases h'; rw [h1] at q;cases q
 | k+1,k' + 1,a,b,b', ⟨_,_,h⟩,⟨_,_,h'⟩,q,q' => Ind.uniq h h' q q'
theorem Res.uniq {l:List Nd} {a b b' : Nat} (h:Res l a b) (h' : Res l a b'):b=b' := by
 obtain ⟨⟨k,h1⟩,h2⟩:=h
 obtain ⟨⟨k', h3⟩,h4⟩:=h'
 exact Ind.uniq h1 h3 h2 h4
theorem Ind.snoc {l:List Nd}:∀ {k a b:Nat},Ind l k a b→∀ (h:b<l.length),l[b].2.2.2.1=true→Ind l (k+1) a l[b].2.2.2.2.toNat
 | 0,a,b,h,hb,q=>by cases h;exact ⟨hb,q,rfl⟩
 | k+1,a,b,⟨h1,h2,h3⟩,hb,q=>⟨h1,h2,h3.snoc hb q⟩
theorem Res.step {l:List Nd} {a b:Nat} (h:a<l.length) (q:l[a].2.2.2.1=true) (r:Res l l[a].2.2.2.2.toNat b):Res l a b:=by
 obtain ⟨⟨k,h1⟩,h2⟩:=r
 exact ⟨⟨k+1,h,q,h1⟩,h2⟩
theorem Res.self {l:List Nd} {a:Nat} (h:a<l.length) (q:l[a].2.2.2.1=false):Res l a a:=⟨⟨0,rfl⟩,h,q⟩
theorem ed_ind {l:List Nd} {a:Nat} (h:a<l.length) (q:l[a].2.2.2.1=true) (hz:0≤l[a].2.2.2.2):Ed l a l[a].2.2.2.2.toNat:=⟨h,by unfold downL;rw [if_pos q];simp;omega⟩
set_option maxHeartbeats 1000000 in
theorem hres_no {B:Nat→Prop} {w:World} {h g room:Nat} {l:List Nd} (p:HpB B w h g room l) (a:Int) (ha:¬ (0≤a∧a<(l.length:Int))):Calls Try.prog 21 #[.pointer (some ⟨h,0,none⟩),.int .i64 a] w fun e w' => e=.returned (.tuple #[.int .i64 0,.int .i64 112])∧Same0 w w' := by
 have k1:Same0 w (w.alloc (.cells #[.int .i64 a] 3)):=(Kept.refl _ _).alloc _
 have C:=refusal_hp (p.same k1) 1 (ints_one w a) (by simp)
 rw [refE_no ha] at C
 clear p ha
 go_enter Try.func21,Try.ntmps21
 go_wp2_with (first | (go_at_call 50;refine C.mono ?_;rintro e w' ⟨rfl,rfl⟩))
 go_ret2
 exact ⟨rfl,k1⟩
set_option maxHeartbeats 2000000 in
theorem hres_yes {B:Nat→Prop} {w:World} {h g room:Nat} {l:List Nd} (p:HpB B w h g room l) (i:Nat) (hi:i<l.length):Calls Try.prog 21 #[.pointer (some ⟨h,0,none⟩),.int .i64 (i:Int)] w fun e w' => ∃ b:Nat,e=.returned (.tuple #[.int .i64 (b:Int),.int .i64 0])∧Res l i b∧Same0 w w' := by
 have k1:Same0 w (w.alloc (.cells #[.int .i64 (i:Int)] 3)):=(Kept.refl _ _).alloc _
 have p1:=p.same k1
 have C:=refusal_hp p1 1 (ints_one w (i:Int)) (by simp)
 rw [refE_one (by omega)] at C
 obtain ⟨c0,c1⟩:=p1.cells
 obtain ⟨r,hr⟩:=p.ac
 have HR:Hid (∀ i j,Ed l i j→r j<r i):=hr
 have HE:Hid (∀ j (hj:j<l.length),NdC B (w.alloc (.cells #[.int .i64 (i:Int)] 3)) g (j * 5) l[j]):=p1.each
 have HM:Hid (∀ x∈l,mayB l.length x=true):=p.may
 have hle:=p.le
 have K1:Hid (Same0 w (w.alloc (.cells #[.int .i64 (i:Int)] 3))):=k1
 clear p p1 k1 hr
 go_enter Try.func21,Try.ntmps21
 go_upto_region 4 with (first | (go_at_call 50;refine C.mono ?_;rintro e w' ⟨rfl,rfl⟩))
 clear C
 go_loop [1] (fun v=>∃ a:Nat,a<l.length∧v=.int .i64 (a:Int)∧Hid (∃ k,Ind l k i a)) (fun v=>r (intOf v).toNat)
 case atStart=>exact ⟨i,hi,rfl,0,rfl⟩
 case round=>
  obtain ⟨a,ha,rfl,hk⟩:=hrel
  obtain ⟨ao,ac,n0,n1,n2,n3,n4, -, -⟩:=HE.out a ha
  have i1:(0:Int)≤(a:Int):=by omega
  have i2:(a:Int)<(room:Int):=by omega
  have mf:=may_facts (HM.out _ (List.getElem_mem ha))
  cases hp:l[a].2.2.2.1
  ·rw [hp] at n3
   have HP:Hid (l[a].2.2.2.1=false):=hp
   clear hp mf n0 n1 n2 n4
   go_wp2
   go_ret2
   exact ⟨a,rfl,⟨hk.out,ha,HP.out⟩,K1.out⟩
  ·rw [hp] at n3
   have HP:Hid (l[a].2.2.2.1=true):=hp
   obtain ⟨m1,m2, -⟩:=mf.2.2.2.2.2.1 hp
   obtain ⟨t,ht⟩:∃ t:Nat,l[a].2.2.2.2=(t:Int):=⟨l[a].2.2.2.2.toNat,by omega⟩
   have HT:Hid (l[a].2.2.2.2=(t:Int)):=ht
   rw [ht] at n4
   have hlt:t<l.length:=by omega
   clear hp mf n0 n1 n2 m1 m2 ht
   go_wp2
   go_round
   case rel=>exact ⟨t,hlt,rfl,by
    obtain ⟨k,hk⟩:=hk.out
    have:=hk.snoc ha HP.out
    rw [HT.out] at this
    exact ⟨k+1,by simpa using this⟩⟩
   case measure=>
    have:=HR.out a t (by have:=ed_ind ha HP.out (by rw [HT.out];omega);rw [HT.out] at this;simpa using this)
    simpa [intOf] using this
def mkE (l:List Nd) (room:Nat) (s:Int) (xs:List Int):Int:=if s<0∨6<xs.length then 1 else if insB (l.length:Int) xs=false then 112 else if l.length=room then 111 else 0
set_option maxHeartbeats 2000000 in
theorem make_no {B:Nat→Prop} {w:World} {h g room:Nat} {l:List Nd} (p:HpB B w h g room l) (s:Int) {ao:Option Addr} {xs:List Int} {cap:Nat} (hx:Arg w ao xs cap) (he:mkE l room s xs≠0) :
  Calls Try.prog 20 #[.pointer (some ⟨h,0,none⟩),.int .i64 s,.slice ao xs.length cap] w fun e w' => e=.returned (.tuple #[.int .i64 0,.int .i64 (mkE l room s xs)])∧Same0 w w' := by
 obtain ⟨c0,c1⟩:=p.cells
 have hs:=hx.size
 have hle:=p.le
 have hr2:=p.rm2
 have r0:Hid (Same0 w w∧Same0 w w.drew∧∀ n,Same0 w (w.drewN n)):=⟨Kept.refl _ _,(Kept.refl _ _).drew,fun n=>(Kept.refl _ _).drewN n⟩
 by_cases h1:s<0
 ·have H:Hid (mkE l room s xs=1):=by show _=_;rw [mkE,if_pos (.inl h1)]
  clear he hx p
  go_enter Try.func20,Try.ntmps20
  go_wp2
  go_ret2
  exact ⟨by rw [H.out];rfl,r0.out.1⟩
 ·by_cases h2:6<xs.length
  ·have H:Hid (mkE l room s xs=1):=by show _=_;rw [mkE,if_pos (.inr h2)]
   clear he hx p
   go_enter Try.func20,Try.ntmps20
   go_wp2
   go_ret2
   exact ⟨by rw [H.out];rfl,r0.out.1⟩
  ·have C:=inside_any cap hx.at' (by omega) (l.length:Int)
   cases hi:insB (l.length:Int) xs
   ·have H:Hid (mkE l room s xs=112):=by show _=_;rw [mkE,if_neg (by omega),if_pos hi]
    rw [hi] at C
    clear he hx p hi
    go_enter Try.func20,Try.ntmps20
    go_wp2_with (first | (go_at_call 49;refine C.mono ?_;rintro e w' ⟨rfl,rfl⟩))
    go_ret2
    exact ⟨by rw [H.out];rfl,r0.out.1⟩
   ·have h4:l.length=room:=by
     by_cases q:l.length=room
     ·exact q
     ·exact absurd (by rw [mkE,if_neg (by omega),if_neg (by rw [hi];simp),if_neg q]) he
    have H:Hid (mkE l room s xs=111):=by show _=_;rw [mkE,if_neg (by omega),if_neg (by rw [hi];simp),if_pos h4]
    rw [hi] at C
    rw [h4] at c1 C
    clear he hx p hi h4 hle
    go_enter Try.func20,Try.ntmps20
    go_upto_region 5 with (first | (go_at_call 49;refine C.mono ?_;rintro e w' ⟨rfl,rfl⟩))
    clear C
    go_quiet (fail)
    go_wp2
    go_ret2
    exact ⟨by rw [H.out];rfl,r0.out.2.2 _⟩
theorem may_make {l:List Nd} (h:∀ x∈l,mayB l.length x=true) {x:Nd} (hx:mayB l.length x=true):∀ y∈l ++ [x],mayB (l ++ [x]).length y=true:=by
 intro y hy
 have:l.length≤(l ++ [x]).length:=by simp
 rcases List.mem_append.1 hy with q | q
 ·exact may_more (h y q) this
 ·simp at q;subst q;exact may_more hx this
theorem mk_zero {l:List Nd} {room:Nat} {s:Int} {xs:List Int} (he:mkE l room s xs=0):0≤s∧xs.length≤6∧insB (l.length:Int) xs=true∧l.length≠room:=by
 unfold mkE at he
 split at he
 ·cases he
 ·split at he
  ·cases he
  ·split at he
   ·cases he
   ·rename_i a b c
    exact ⟨by omega,by omega,by simpa using b,c⟩
theorem mk_may {l:List Nd} {s:Int} {xs:List Int} (h0:0≤s) (h1:xs.length≤6) (h2:insB (l.length:Int) xs=true):mayB l.length (s,xs,0,false,0)=true:=by
 unfold mayB
 unfold insB at h2
 simp [h0,h1]
 simpa using h2
theorem HpB.made {B:Nat→Prop} {w w1:World} {h g room:Nat} {l:List Nd} (p:HpB B w h g room l) (k1:Same0 w w1) {s:Int} {xs:List Int} (he:mkE l room s xs=0) {bo:Option Addr} {bc:Nat} (ha:ArgT w1 bo xs bc) (hb:∀ a,bo=some a→w.heap.size≤a.block) :
  HpB (fun b=>B b∨w.heap.size≤b) ((put5 w1 g (l.length * 5) (.int .i64 s) (.slice bo xs.length bc) (.int .i64 0) (.bool false) (.int .i64 0)).setCell ⟨h,1,none⟩ (.int .i64 ((l.length:Int)+1))) h g room (l ++ [(s,xs,0,false,0)]):=by
 obtain ⟨h0,h1,h2,h3⟩:=mk_zero he
 have hle:=p.le
 have p1:=p.same k1
 have q:=put5_nodes (B' := fun b=>B b∨w.heap.size≤b) (i:=l.length) (x:=(s,xs,0,false,0)) (ao:=bo) (ac:=bc) p1.blk p1.each (by omega) ha (fun a e=>.inr (hb a e)) (fun k e=>.inl e)
 obtain ⟨q1,q2,q3⟩:=q
 have kp:=put5_kept w1 g (l.length * 5) (.int .i64 s) (.slice bo xs.length bc) (.int .i64 0) (.bool false) (.int .i64 0)
 have bx:=kp.at p1.box p.ne
 have ks:Kept (fun k=>k=h) (put5 w1 g (l.length * 5) (.int .i64 s) (.slice bo xs.length bc) (.int .i64 0) (.bool false) (.int .i64 0)) _:=Kept.setCell (S:=fun k=>k=h) (Kept.refl _ _) (p:=⟨h,1,none⟩) (fun _=>rfl) (.int .i64 ((l.length:Int)+1))
 have nh:∀ k,k=h→NotI (put5 w1 g (l.length * 5) (.int .i64 s) (.slice bo xs.length bc) (.int .i64 0) (.bool false) (.int .i64 0)) k:=fun k e cur hc=>by rw [e,bx] at hc;cases hc
 have gl:g<(put5 w1 g (l.length * 5) (.int .i64 s) (.slice bo xs.length bc) (.int .i64 0) (.bool false) (.int .i64 0)).heap.size:=Nat.lt_of_lt_of_le p1.ltG kp.size
 refine ⟨?_,?_,p.rm1,p.rm2,by simp;omega,fun i hi=>?_,may_make p.may (mk_may h0 h1 h2),p.ac.make p.inl _ (may_down (mk_may h0 h1 h2))⟩
 ·have:=setAt bx 1 (.int .i64 ((l.length:Int)+1))
  simpa using this
 ·obtain ⟨cs,q4,q5⟩:=q2
  exact ⟨cs,ks.at q4 (fun e=>p.ne e.symm),q5⟩
 ·by_cases e:i<l.length
  ·rw [List.getElem_append_left e]
   exact (q3 i e (by omega)).kept gl ks (fun e=>p.ne e.symm) (fun k _ e=>nh k e)
  ·obtain rfl:i=l.length:=by simp at hi;omega
   simp only [List.getElem_append_right (Nat.le_refl _),Nat.sub_self,List.getElem_cons_zero]
   exact q1.kept gl ks (fun e=>p.ne e.symm) (fun k _ e=>nh k e)
theorem made_kept {w w1:World} (k1:Same0 w w1) (h g off:Nat) (v0 v1 v2 v3 v4 v5:Value):Kept (fun k=>k=h∨k=g) w ((put5 w1 g off v0 v1 v2 v3 v4).setCell ⟨h,1,none⟩ v5):=by
 have a:Kept (fun k=>k=h∨k=g) w w1:=k1.mono (fun _ _ f=>f.elim)
 have b:=a.trans (S' := fun k=>k=g) (put5_kept w1 g off v0 v1 v2 v3 v4) (fun _ _ e=>.inr e)
 exact Kept.setCell (S:=fun k=>k=h∨k=g) b (p:=⟨h,1,none⟩) (fun _=>.inl rfl) v5
set_option maxHeartbeats 1000000 in
theorem make_yes {B:Nat→Prop} {w:World} {h g room:Nat} {l:List Nd} (p:HpB B w h g room l) (s:Int) {ao:Option Addr} {xs:List Int} {cap:Nat} (hx:Arg w ao xs cap) (he:mkE l room s xs=0) :
  Calls Try.prog 20 #[.pointer (some ⟨h,0,none⟩),.int .i64 s,.slice ao xs.length cap] w fun e w' => e=.returned (.tuple #[.int .i64 (l.length:Int),.int .i64 0])∧HpB (fun b=>B b∨w.heap.size≤b) w' h g room (l ++ [(s,xs,0,false,0)])∧Kept (fun k=>k=h∨k=g) w w' := by
 obtain ⟨h0,h1,h2,h3⟩:=mk_zero he
 obtain ⟨c0,c1⟩:=p.cells
 have hle:=p.le
 have hr2:=p.rm2
 have hne:=p.ne
 have C:=inside_any cap hx.at' (by omega) (l.length:Int)
 rw [h2] at C
 have i0:¬ s<0:=by omega
 have i1:(0:Int)≤(l.length:Int):=by omega
 have i2:(l.length:Int)<(room:Int):=by omega
 have i3:¬ ((l.length:Int)=(room:Int)):=by omega
 have HP:Hid (∀ ww,Same0 w ww→HpB B ww h g room l):=fun ww hk=>p.same hk
 have HC:Hid (∀ ww,Same0 w ww→Calls Try.prog 46 #[nodeV (s,xs,0,false,0) ao cap] ww fun e w' => ∃ bo bc,e=.returned (nodeV (s,xs,0,false,0) bo bc)∧ArgT w' bo xs bc∧(∀ a,bo=some a→ww.heap.size≤a.block)∧Same0 ww w'):=fun ww hk=>copied_any (x:=(s,xs,0,false,0)) (ac:=cap) ⟨hx.at'.same hk,hx.cap', hx.nil,hx.size⟩ (by simp;omega)
 have HF:Hid (∀ w1 bo bc,Same0 w w1→ArgT w1 bo xs bc→(∀ a,bo=some a→w.heap.size≤a.block)→HpB (fun b=>B b∨w.heap.size≤b) ((put5 w1 g (l.length * 5) (.int .i64 s) (.slice bo xs.length bc) (.int .i64 0) (.bool false) (.int .i64 0)).setCell ⟨h,1,none⟩ (.int .i64 ((l.length:Int)+1))) h g room (l ++ [(s,xs,0,false,0)])):=fun w1 bo bc k1 ha hb=>p.made k1 he ha hb
 have K0:Hid (∀ n,Same0 w (w.drewN n)):=fun n=>(Kept.refl _ _).drewN n
 clear he hx p h2 h3
 go_enter Try.func20,Try.ntmps20
 go_upto_region 5 with (first | (go_at_call 49;refine C.mono ?_;rintro e w' ⟨rfl,rfl⟩))
 clear C
 go_quiet (fail)
 go_upto_region 8 with fail
 obtain ⟨W2,hW2⟩:∃ W2,W2=w'.drewN nq:=⟨_,rfl⟩
 have K2:Same0 w' W2:=by rw [hW2];exact K0.out _
 rw [← hW2]
 clear hW2 c0 c1
 have K2d:Same0 w' W2.drew:=K2.drew
 have C0:=(HP.out _ K2d).cells.1
 have CCd:=HC.out _ K2d
 have hlr:l.length<room:=by omega
 have HT:Hid (l.length<room):=hlr
 have Hsz:Hid (w'.heap.size≤W2.drew.heap.size):=K2d.size
 go_region_with (first | (go_at_call 46;refine CCd.mono ?_;rintro e w3 ⟨bo,bc,rfl,ha,hbb,hk3⟩;have K3:=K2d.trans' hk3;have P3:=HP.out w3 K3;have cc1:=P3.cells.1;obtain ⟨u0,u1,u2,u3,u4,t0,t1,t2,t3,t4⟩:=P3.there HT.out;have f0:=P3.free.2 (l.length * 5);have f1:=P3.free.2 (l.length * 5+1);have f2:=P3.free.2 (l.length * 5+2);have f3:=P3.free.2 (l.length * 5+3);have f4:=P3.free.2 (l.length * 5+4)))
 all_goals
  obtain ⟨w5,hw5⟩:∃ w5,w5=put5 w3 g (l.length * 5) (.int .i64 s) (.slice bo xs.length bc) (.int .i64 0) (.bool false) (.int .i64 0):=⟨_,rfl⟩
  have K5:Kept (fun k=>k=g) w3 w5:=by rw [hw5];exact put5_kept _ _ _ _ _ _ _ _
  have b5:=K5.at P3.box hne
  have c5:w5.cell? ⟨h,1,none⟩=some (.int .i64 (l.length:Int)):=cellAt b5 1
  have e5:w5.frozen? ⟨h,1,none⟩=false:=frozenAt b5 1
  have F1:=HF.out w3 bo bc K3 ha (fun a e=>Nat.le_trans Hsz.out (hbb a e))
  have F2:=made_kept K3 h g (l.length * 5) (.int .i64 s) (.slice bo xs.length bc) (.int .i64 0) (.bool false) (.int .i64 0) (.int .i64 ((l.length:Int)+1))
  rw [← hw5] at F1 F2
  have FF:Hid (HpB (fun b=>B b∨w'.heap.size≤b) (w5.setCell ⟨h,1,none⟩ (.int .i64 ((l.length:Int)+1))) h g room (l ++ [(s,xs,0,false,0)])∧Kept (fun k=>k=h∨k=g) w' (w5.setCell ⟨h,1,none⟩ (.int .i64 ((l.length:Int)+1)))):=⟨F1,F2⟩
  change Exit.then _ _ Exit.normal _ (put5 w3 g (l.length * 5) (.int .i64 s) (.slice bo xs.length bc) (.int .i64 0) (.bool false) (.int .i64 0))
  rw [← hw5]
  clear hw5 F1 F2 b5 t0 t1 t2 t3 t4 f0 f1 f2 f3 f4 cc1 P3 C0 CCd ha hbb HF HC HP
  go_wp2
  go_ret2
  exact ⟨rfl,FF.out.1,FF.out.2⟩
end Go.Proofs.Ytmloedlkoijfbaa
namespace Go.Proofs.Ytmloedlkoijfbaa
set_option linter.unusedVariables false
structure Bf (l:List Nd) (top N:Nat) (met:List Bool) (F:List Nat):Prop where
 len:met.length=N
 top' : top∈F
 each:∀ j∈F,j<l.length∧Rc l top j
 iff:∀ j,met[j]? = some true ↔ j∈F
 cnt:F.length=met.count true
def Cl (l:List Nd) (F:List Nat) (i:Nat):Prop:=∀ k (h:k<F.length),k<i→∀ j,Ed l F[k] j→j∈F
theorem Bf.le {l:List Nd} {top N:Nat} {met:List Bool} {F:List Nat} (h:Bf l top N met F):F.length≤N:=by
 rw [h.cnt,← h.len];exact List.count_le_length
theorem Bf.start {l:List Nd} {top N:Nat} (ht:top<l.length) (hN:l.length≤N):Bf l top N ((List.replicate N false).set top true) [top]:=by
 refine ⟨by simp,by simp,?_,?_,?_⟩
 ·intro j hj;simp at hj;subst hj;exact ⟨ht,Rc.refl l j⟩
 ·intro j
  rw [List.getElem?_set]
  by_cases e:top=j
  ·subst e;simp;omega
  ·simp [e,List.getElem?_replicate]
   intro h;exact e h.symm
 ·rw [List.count_set (by simp;omega),List.count_replicate]
  simp
theorem Bf.push {l:List Nd} {top N:Nat} {met:List Bool} {F:List Nat} (h:Bf l top N met F) {b:Nat} (hb:met[b]? = some false) (hl:b<l.length) (hr:Rc l top b):Bf l top N (met.set b true) (F ++ [b]):=by
 obtain ⟨hlt,hv⟩:=List.getElem?_eq_some_iff.1 hb
 refine ⟨by simp [h.len],by simp [h.top'],?_,?_,?_⟩
 ·intro j hj
  rcases List.mem_append.1 hj with q | q
  ·exact h.each j q
  ·simp at q;subst q;exact ⟨hl,hr⟩
 ·intro j
  rw [List.getElem?_set]
  by_cases e:b=j
  ·subst e;simp [hlt]
  ·rw [if_neg e,h.iff]
   simp
   intro q;exact absurd q.symm e
 ·rw [List.count_set hlt,List.length_append,h.cnt]
  simp [hv]
theorem Cl.push {l:List Nd} {F:List Nat} {i:Nat} (h:Cl l F i) (hi:i≤F.length) (b:Nat):Cl l (F ++ [b]) i:=by
 intro k hk hki j e
 rw [List.getElem_append_left (by omega)] at e
 exact List.mem_append.2 (.inl (h k (by omega) hki j e))
theorem Bf.done {l:List Nd} {top N:Nat} {met:List Bool} {F:List Nat} (h:Bf l top N met F) (hc:Cl l F F.length) (a:Nat):met[a]? = some true ↔ Rc l top a:=by
 rw [h.iff]
 refine ⟨fun q=>(h.each a q).2,fun q=>?_⟩
 refine Rc.in (S:=fun j=>j∈F) (fun i j hi e=>?_) h.top' q
 obtain ⟨k,hk,rfl⟩:=List.mem_iff_getElem.1 hi
 exact hc k hk hk j e
theorem Bf.has {l:List Nd} {top N:Nat} {met:List Bool} {F:List Nat} (h:Bf l top N met F) {a:Nat} (q:met[a]? = some true):Rc l top a:=(h.each a ((h.iff a).1 q)).2
theorem Cl.next {l:List Nd} {F:List Nat} {i:Nat} (h:Cl l F i) (hi:i<F.length) (hd:∀ z∈(if h:F[i]<l.length then downL l[F[i]] else []),z.toNat∈F):Cl l F (i+1):=by
 intro k hk hki j e
 by_cases q:k=i
 ·subst q
  obtain ⟨hlt,hm⟩:=e
  have:=hd (j:Int) (by rw [dif_pos hlt];exact hm)
  simpa using this
 ·exact h k hk (by omega) j e
end Go.Proofs.Ytmloedlkoijfbaa
