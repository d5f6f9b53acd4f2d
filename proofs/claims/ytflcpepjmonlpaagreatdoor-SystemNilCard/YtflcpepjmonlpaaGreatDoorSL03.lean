import Derived.Test.YtflcpepjmonlpaaGreatDoorSL01
import Derived.Test.YtflcpepjmonlpaaGreatDoorSL02
import Derived.OwnWalk
import Derived.Deep.RegionLaw
import Derived.Deep.LoopGhost
import Derived.Deep.CutRange
import Derived.BigRegion
import Derived.Laws.CopyOwn
import Derived.Laws.AppendOwnNone
import Derived.Deep.WholeRow
namespace Go.Proofs.YtflcpepjmonlpaaGreatDoor
set_option maxRecDepth 100000
set_option linter.unusedVariables false
open Go.RowKit
attribute [local go_sem ↓] Go.wp_at_zero Go.wp_at_succ
def Nums (w:World) (b n:Nat) (f:Nat→Int):Prop:=∃ cs t,w.heap[b]? = some (.cells cs t (0,0))∧n≤cs.size∧∀ i,i<n→cs[i]? = some (.int .i64 (f i))
theorem Nums.kept {S:Nat→Prop} {w w' : World} {b n:Nat} {f:Nat→Int} (h:Nums w b n f) (hk:Kept S w w') (hs:¬ S b):Nums w' b n f:=by
 obtain ⟨cs,t,h1,h2⟩:=h
 exact ⟨cs,t,hk.at h1 hs,h2⟩
theorem Nums.lt {w:World} {b n:Nat} {f:Nat→Int} (h:Nums w b n f):b<w.heap.size:=by
 obtain ⟨cs,t,h1,h2⟩:=h
 exact lt_of_at h1
theorem Nums.cell {w:World} {b n:Nat} {f:Nat→Int} (h:Nums w b n f) {i:Nat} (hi:i<n):w.cell? ⟨b,i,none⟩=some (.int .i64 (f i))∧w.frozen? ⟨b,i,none⟩=false:=by
 obtain ⟨cs,t,h1,_,h2⟩:=h
 exact ⟨by rw [cellAt h1];exact h2 i hi,frozenAt h1 i⟩
theorem Nums.set {w:World} {b n:Nat} {f:Nat→Int} (h:Nums w b n f) (i:Nat) (v:Int):Nums (w.setCell ⟨b,i,none⟩ (.int .i64 v)) b n (fun k=>if k=i then v else f k):=by
 obtain ⟨cs,t,h1,h0,h2⟩:=h
 refine ⟨_,t,setAt h1 i _,by simpa using h0,fun k hk=>?_⟩
 rw [Array.getElem?_setIfInBounds]
 by_cases e:k=i
 ·subst e;rw [if_pos rfl,if_pos (by omega)];simp
 ·rw [if_neg (fun f=>e f.symm)];simp only [e,if_false];exact h2 k hk
theorem Nums.congr {w:World} {b n:Nat} {f g:Nat→Int} (h:Nums w b n f) (e:∀ i,i<n→f i=g i):Nums w b n g:=by
 obtain ⟨cs,t,h1,h0,h2⟩:=h
 exact ⟨cs,t,h1,h0,fun i hi=>by rw [h2 i hi,e i hi]⟩
structure JB where
 jb:Nat
 lb:Nat
 eb:Nat
 sb:Nat
 zb:Nat
 lcap:Nat
def JB.Foot (B:JB) (k:Nat):Prop:=k=B.jb∨k=B.lb∨k=B.eb∨k=B.sb∨k=B.zb
structure JB.Apart (B:JB):Prop where
 a1:B.jb≠B.lb
 a2:B.jb≠B.eb
 a3:B.jb≠B.sb
 a4:B.jb≠B.zb
 a5:B.sb≠B.lb
 a6:B.sb≠B.eb
 a7:B.sb≠B.zb
 a8:B.zb≠B.lb
 a9:B.zb≠B.eb
def Head (w:World) (B:JB) (N M:Nat) (nx:Int→Int):Prop:=∃ cs,w.heap[B.jb]? = some (.cells cs 436 (0,0))∧cs.size=203∧cs[0]? = some (.slice (some ⟨B.lb,0,none⟩) N B.lcap)∧cs[1]? = some (.slice (some ⟨B.eb,0,none⟩) M M)∧(∀ v,1≤v→v<199→cs[2+v]? = some (.int .i64 (nx (-(v:Int)))))∧cs[201]? = some (.slice (some ⟨B.sb,0,none⟩) M M)∧cs[202]? = some (.slice (some ⟨B.zb,0,none⟩) M M)
theorem Head.kept {S:Nat→Prop} {w w' : World} {B:JB} {N M:Nat} {nx:Int→Int} (h:Head w B N M nx) (hk:Kept S w w') (hs:¬ S B.jb):Head w' B N M nx:=by
 obtain ⟨cs,h1,h2⟩:=h
 exact ⟨cs,hk.at h1 hs,h2⟩
theorem Head.cells {w:World} {B:JB} {N M:Nat} {nx:Int→Int} (h:Head w B N M nx):w.cell? ⟨B.jb,0,none⟩=some (.slice (some ⟨B.lb,0,none⟩) N B.lcap)∧w.cell? ⟨B.jb,1,none⟩=some (.slice (some ⟨B.eb,0,none⟩) M M)∧w.cell? ⟨B.jb,201,none⟩=some (.slice (some ⟨B.sb,0,none⟩) M M)∧w.cell? ⟨B.jb,202,none⟩=some (.slice (some ⟨B.zb,0,none⟩) M M)∧B.jb<w.heap.size:=by
 obtain ⟨cs,h1,h2,h3,h4,h5,h6,h7⟩:=h
 exact ⟨by rw [cellAt h1];exact h3,by rw [cellAt h1];exact h4,by rw [cellAt h1];exact h6,by rw [cellAt h1];exact h7,lt_of_at h1⟩
theorem Head.var {w:World} {B:JB} {N M:Nat} {nx:Int→Int} (h:Head w B N M nx) {v:Nat} (h1:1≤v) (h2:v<199):w.cell? ⟨B.jb,2+v,none⟩=some (.int .i64 (nx (-(v:Int))))∧w.frozen? ⟨B.jb,2+v,none⟩=false:=by
 obtain ⟨cs,g1,g2,g3,g4,g5,g6,g7⟩:=h
 exact ⟨by rw [cellAt g1];exact g5 v h1 h2,frozenAt g1 _⟩
theorem Head.set {w:World} {B:JB} {N M:Nat} {nx:Int→Int} (h:Head w B N M nx) {v:Nat} (h1:1≤v) (h2:v<199) (x:Int):Head (w.setCell ⟨B.jb,2+v,none⟩ (.int .i64 x)) B N M (fun y=>if y = -(v:Int) then x else nx y):=by
 obtain ⟨cs,g1,g2,g3,g4,g5,g6,g7⟩:=h
 refine ⟨_,setAt g1 _ _,by simpa using g2,?_,?_,?_,?_,?_⟩
 ·rw [Array.getElem?_setIfInBounds,if_neg (by omega)];exact g3
 ·rw [Array.getElem?_setIfInBounds,if_neg (by omega)];exact g4
 ·intro k hk1 hk2
  rw [Array.getElem?_setIfInBounds]
  by_cases e:k=v
  ·subst e;rw [if_pos rfl,if_pos (by omega)];simp
  ·rw [if_neg (by omega)];simp only [show ¬ (-(k:Int) = -(v:Int)) by omega,if_false];exact g5 k hk1 hk2
 ·rw [Array.getElem?_setIfInBounds,if_neg (by omega)];exact g6
 ·rw [Array.getElem?_setIfInBounds,if_neg (by omega)];exact g7
theorem Head.congr {w:World} {B:JB} {N M:Nat} {nx ny:Int→Int} (h:Head w B N M nx) (e:∀ v:Nat,1≤v→v<199→nx (-(v:Int))=ny (-(v:Int))):Head w B N M ny:=by
 obtain ⟨cs,g1,g2,g3,g4,g5,g6,g7⟩:=h
 exact ⟨cs,g1,g2,g3,g4,fun v a b=>by rw [g5 v a b,e v a b],g6,g7⟩
structure JC (L:List Sym) (B:JB) (w:World) (J:List Int) (nx:Int→Int) (sz:Nat→Int):Prop where
 head:Head w B J.length J.length nx
 list:Nums w B.lb J.length (fun i=>at' J i)
 ends:Nums w B.eb J.length (fun i=>(endN L J i:Int))
 same:Nums w B.sb J.length (fun i=>nx i)
 sizes:Nums w B.zb J.length sz
 ap:B.Apart
theorem JC.kept {L:List Sym} {S:Nat→Prop} {w w' : World} {B:JB} {J:List Int} {nx:Int→Int} {sz:Nat→Int} (h:JC L B w J nx sz) (hk:Kept S w w') (hs:∀ k,B.Foot k→¬ S k):JC L B w' J nx sz:=
 ⟨h.head.kept hk (hs _ (.inl rfl)),h.list.kept hk (hs _ (.inr (.inl rfl))),h.ends.kept hk (hs _ (.inr (.inr (.inl rfl)))),h.same.kept hk (hs _ (.inr (.inr (.inr (.inl rfl))))),h.sizes.kept hk (hs _ (.inr (.inr (.inr (.inr rfl))))),h.ap⟩
theorem JC.lt {L:List Sym} {w:World} {B:JB} {J:List Int} {nx:Int→Int} {sz:Nat→Int} (h:JC L B w J nx sz) {k:Nat} (hk:B.Foot k):k<w.heap.size:=by
 rcases hk with e | e | e | e | e <;> subst e
 ·exact h.head.cells.2.2.2.2
 ·exact h.list.lt
 ·exact h.ends.lt
 ·exact h.same.lt
 ·exact h.sizes.lt
def nxA (B:JB) (x:Int):Addr:=if x<0 then ⟨B.jb,2+(-x).toNat,none⟩ else ⟨B.sb,x.toNat,none⟩
def nxB (B:JB) (x:Int):Nat:=if x<0 then B.jb else B.sb
theorem nxA_block (B:JB) (x:Int):(nxA B x).block=nxB B x:=by unfold nxA nxB;split <;> rfl
theorem JC.next {L:List Sym} {w:World} {B:JB} {J:List Int} {nx:Int→Int} {sz:Nat→Int} (h:JC L B w J nx sz) {x:Int} (hx:UPart J x):w.cell? (nxA B x)=some (.int .i64 (nx x))∧w.frozen? (nxA B x)=false:=by
 unfold nxA
 split
 ·have:=h.head.var (v:=(-x).toNat) (by omega) (by have:=hx.1;omega)
  rw [show -(((-x).toNat:Nat):Int)=x by omega] at this
  exact this
 ·have:=h.same.cell (i:=x.toNat) (by have:=hx.2;omega)
  rw [show ((x.toNat:Nat):Int)=x by omega] at this
  exact this
theorem JC.put {L:List Sym} {w:World} {B:JB} {J:List Int} {nx:Int→Int} {sz:Nat→Int} (h:JC L B w J nx sz) {x:Int} (hx:UPart J x) (v:Int):JC L B (w.setCell (nxA B x) (.int .i64 v)) J (fun y=>if y=x then v else nx y) sz∧Kept (fun k=>k=nxB B x) w (w.setCell (nxA B x) (.int .i64 v)):=by
 have hk:Kept (fun k=>k=nxB B x) w (w.setCell (nxA B x) (.int .i64 v)):=Kept.setCell (Kept.refl _ w) (fun _=>nxA_block B x) _
 refine ⟨?_,hk⟩
 have ap:=h.ap
 by_cases hn:x<0
 ·have e1:nxB B x=B.jb:=by unfold nxB;rw [if_pos hn]
  have e2:nxA B x=⟨B.jb,2+(-x).toNat,none⟩:=by unfold nxA;rw [if_pos hn]
  have hh:=h.head.set (v:=(-x).toNat) (by omega) (by have:=hx.1;omega) v
  rw [show -(((-x).toNat:Nat):Int)=x by omega] at hh
  rw [e1] at hk
  rw [e2] at hk ⊢
  refine ⟨hh,h.list.kept hk (fun e=>ap.a1 e.symm),h.ends.kept hk (fun e=>ap.a2 e.symm),(h.same.kept hk (fun e=>ap.a3 e.symm)).congr ?_,h.sizes.kept hk (fun e=>ap.a4 e.symm),ap⟩
  intro i _;rw [if_neg (by omega)]
 ·have e1:nxB B x=B.sb:=by unfold nxB;rw [if_neg hn]
  have e2:nxA B x=⟨B.sb,x.toNat,none⟩:=by unfold nxA;rw [if_neg hn]
  have hh:=h.same.set x.toNat v
  rw [e1] at hk
  rw [e2] at hk ⊢
  refine ⟨(h.head.kept hk ap.a3).congr ?_,h.list.kept hk (fun e=>ap.a5 e.symm),h.ends.kept hk (fun e=>ap.a6 e.symm),hh.congr ?_,h.sizes.kept hk (fun e=>ap.a7 e.symm),ap⟩
  ·intro k h1 h2;rw [if_neg (by omega)]
  ·intro i _
   by_cases e:i=x.toNat
   ·rw [if_pos e,if_pos (by omega)]
   ·rw [if_neg e,if_neg (by omega)]
structure Led (J:List Int) (nx ld:Int→Int) (ρ:Int→Nat):Prop where
 part:∀ x,UPart J x→UPart J (nx x)
 lead:∀ x,UPart J x→ld (nx x)=ld x
 stop:∀ x,UPart J x→(nx x=x ↔ ld x=x)
 down:∀ x,UPart J x→nx x≠x→ρ (nx x)<ρ x
theorem Led.halve {J:List Int} {nx ld:Int→Int} {ρ:Int→Nat} (h:Led J nx ld ρ) {x:Int} (hx:UPart J x) (hn:nx x≠x):Led J (fun y=>if y=x then nx (nx x) else nx y) ld ρ∧ρ (nx (nx x))<ρ x:=by
 have p1:=h.part x hx
 have d1:=h.down x hx hn
 have d2:ρ (nx (nx x))≤ρ (nx x):=by
  by_cases e:nx (nx x)=nx x
  ·rw [e];exact Nat.le_refl _
  ·exact Nat.le_of_lt (h.down _ p1 e)
 refine ⟨⟨?_,?_,?_,?_⟩,by omega⟩ <;> intro y hy <;> by_cases e:y=x
 ·simp only [e,if_true];exact h.part _ p1
 ·simp only [e,if_false];exact h.part _ hy
 ·simp only [e,if_true];rw [h.lead _ p1,h.lead _ hx]
 ·simp only [e,if_false];exact h.lead _ hy
 ·simp only [e,if_true]
  refine ⟨fun f=>?_,fun f=>absurd ((h.stop x hx).2 f) hn⟩
  rw [f] at d2;omega
 ·simp only [e,if_false];exact h.stop _ hy
 ·simp only [e,if_true];intro _;omega
 ·simp only [e,if_false];exact h.down _ hy
theorem Led.join {J:List Int} {nx ld:Int→Int} {ρ:Int→Nat} (h:Led J nx ld ρ) {p q:Int} (hp:UPart J p) (hq:UPart J q) (lp:ld p=p) (lq:ld q=q) (hpq:p≠q):Led J (fun y=>if y=p then q else nx y) (un p q ld) (fun x=>ρ x+if ld x=p then ρ q+1 else 0):=by
 have u1:∀ x,ld x=p→un p q ld x=q:=fun x e=>by unfold un;rw [if_pos e]
 have u2:∀ x,ld x≠p→un p q ld x=ld x:=fun x e=>by unfold un;rw [if_neg e]
 have lqp:ld q≠p:=by rw [lq];exact fun f=>hpq f.symm
 refine ⟨?_,?_,?_,?_⟩ <;> intro y hy <;> by_cases e:y=p
 ·simp only [e,if_true];exact hq
 ·simp only [e,if_false];exact h.part _ hy
 ·simp only [e,if_true];rw [u2 q lqp,u1 p lp,lq]
 ·simp only [e,if_false]
  have:=h.lead y hy
  unfold un;rw [this]
 ·simp only [e,if_true];rw [u1 p lp]
 ·simp only [e,if_false]
  by_cases f:ld y=p
  ·rw [u1 y f]
   refine ⟨fun g=>?_,fun g=>?_⟩
   ·have:=(h.stop y hy).1 g;rw [f] at this;exact absurd this.symm e
   ·rw [← g,lq] at f;exact absurd f.symm hpq
  ·rw [u2 y f];exact h.stop y hy
 ·simp only [e,if_true];intro _;rw [if_neg lqp,if_pos lp];omega
 ·simp only [e,if_false]
  intro hn
  have:=h.down y hy hn
  rw [h.lead y hy];omega
def JAt (L:List Sym) (B:JB) (w:World) (J:List Int) (ld:Int→Int) (sz:Nat→Int):Prop:=∃ nx ρ,JC L B w J nx sz∧Led J nx ld ρ
theorem JAt.kept {L:List Sym} {S:Nat→Prop} {w w' : World} {B:JB} {J:List Int} {ld:Int→Int} {sz:Nat→Int} (h:JAt L B w J ld sz) (hk:Kept S w w') (hs:∀ k,B.Foot k→¬ S k):JAt L B w' J ld sz:=by
 obtain ⟨nx,ρ,h1,h2⟩:=h
 exact ⟨nx,ρ,h1.kept hk hs,h2⟩
theorem unext_any {L:List Sym} {w:World} {B:JB} {J:List Int} {nx:Int→Int} {sz:Nat→Int} (h:JC L B w J nx sz) {x:Int} (hx:UPart J x) :
  Calls Tryz.prog 305 #[.pointer (some ⟨B.jb,0,none⟩),.int .i64 x] w fun e w' => e=.returned (.pointer (some (nxA B x)))∧w' = w:=by
 obtain ⟨c0,c1,c2,c3,c4⟩:=h.head.cells
 have h1:=hx.1
 have h2:=hx.2
 clear h hx
 by_cases hn:x<0
 ·obtain ⟨v,hv⟩:∃ v:Nat,x = -(v:Int):=⟨(-x).toNat,by omega⟩
  subst hv
  have e:nxA B (-(v:Int))=⟨B.jb,2+v,none⟩:=by unfold nxA;rw [if_pos hn];congr 2;omega
  rw [e]
  have i1:(0:Int)≤(v:Int):=by omega
  have i2:(v:Int)<199:=by omega
  go_enter Tryz.func305,Tryz.ntmps305
  go_wp2
  go_returns
  exact ⟨rfl,rfl⟩
 ·obtain ⟨v,hv⟩:∃ v:Nat,x=(v:Int):=⟨x.toNat,by omega⟩
  subst hv
  have e:nxA B (v:Int)=⟨B.sb,v,none⟩:=by unfold nxA;rw [if_neg hn];congr 1
  rw [e]
  have i1:(0:Int)≤(v:Int):=by omega
  go_enter Tryz.func305,Tryz.ntmps305
  go_wp2
  go_returns
  exact ⟨rfl,rfl⟩
end Go.Proofs.YtflcpepjmonlpaaGreatDoor
namespace Go.Proofs.YtflcpepjmonlpaaGreatDoor
set_option maxRecDepth 100000
open Go.RowKit
attribute [local go_sem ↓] Go.wp_at_zero Go.wp_at_succ
def endI (L:List Sym) (t:List Int) (p:Nat):Int:=match endO L t p with | some e=>(e:Int) | none=>-1
theorem endO_round {L:List Sym} {t:List Int} {p0 p k:Nat} (h:endO L t p0=(scan L (k+1) (t.drop p)).map (p + ·)) (hp:p<t.length):endO L t p0=(scan L (k+arN L t[p]) (t.drop (p+1))).map (p+1 + ·):=by
 rw [h,List.drop_eq_getElem_cons hp,scan,Option.map_map]
 congr 1
 funext x
 simp;omega
theorem endO_stop {L:List Sym} {t:List Int} {p0 p:Nat} (h:endO L t p0=(scan L 0 (t.drop p)).map (p + ·)):endI L t p0=(p:Int):=by
 simp [endI,h,scan_zero]
theorem endO_none {L:List Sym} {t:List Int} {p0 p k:Nat} (h:endO L t p0=(scan L (k+1) (t.drop p)).map (p + ·)) (hp:t.length≤p):endI L t p0 = -1:=by
 rw [List.drop_eq_nil_of_le hp] at h
 simp [endI,h,scan]
set_option maxHeartbeats 2000000 in
theorem end_any {n b:Nat} {w:World} {L:List Sym} (h:Sg n w b L) {ao:Option Addr} {cap:Nat} {t:List Int} (ht:IntsAt w ao t) (hm:t.length≤2000) (p0:Nat) (hp0:p0≤t.length) :
  Calls Tryz.prog 109 #[.pointer (some ⟨b,0,none⟩),.slice ao t.length cap,.int .i64 (p0:Int)] w fun e w' => e=.returned (.int .i64 (endI L t p0))∧Same0 w w' := by
 have ha:=h.2
 go_enter Tryz.func109,Tryz.ntmps109
 go_wp2
 go_loopw [2,7] (fun at' la wr=>∃ p k:Nat,p0≤p∧p≤t.length∧at' = .int .i64 (p:Int)∧la=.int .i64 ((k+1:Nat):Int)∧k≤6 * (p-p0)∧endO L t p0=(scan L (k+1) (t.drop p)).map (p + ·)∧Same0 w wr) (fun at' _ _=>t.length-(intOf at').toNat)
 case atStart=>exact ⟨p0,0,Nat.le_refl _,hp0,rfl,rfl,by omega,rfl,Kept.refl _ _⟩
 case round=>
  obtain ⟨p,k,h1,h2,rfl,rfl,h3,h4,hk⟩:=hrel
  by_cases hlt:p<t.length
  ·obtain ⟨tb,off,rfl,htb,hc⟩:=(ht.same hk).get hlt
   have c:=arity_any (h.same hk) t[p]
   have hle:=arN_le ha t[p]
   have h5:=endO_round h4 hlt
   have H5:Hid (endO L t p0=(scan L (k+arN L t[p]) (t.drop (p+1))).map (p+1 + ·)):=h5
   clear h5 h4
   have i1:(0:Int)≤(p:Int):=by omega
   have i2:(p:Int)<(t.length:Int):=by omega
   generalize arN L t[p]=a at *
   by_cases hz:k+a=0
   ·have z1:((k:Int)+1+((a:Int)-1) == 0)=true:=by simp;omega
    have H6:Hid (endI L t p0=(p:Int)+1):=by
     have H5:=H5.out
     rw [hz] at H5
     have:=endO_stop H5
     show _=_
     rw [this];simp
    go_wp2_with (first | (go_at_call 162;refine c.mono ?_;rintro e w' ⟨rfl,hk1⟩))
    go_ret
    exact ⟨ret_int H6.out.symm,hk.trans' hk1⟩
   ·have z1:((k:Int)+1+((a:Int)-1) == 0)=false:=by simp;omega
    go_wp2_with (first | (go_at_call 162;refine c.mono ?_;rintro e w' ⟨rfl,hk1⟩))
    refine ⟨⟨p+1,k+a-1,by omega,by omega,by go_num,by congr 1;omega,by omega,?_,hk.trans' hk1⟩,by simp [intOf];omega⟩
    rw [show k+a-1+1=k+a by omega]
    exact H5.out
  ·have H6:Hid (endI L t p0 = -1):=endO_none h4 (by omega)
   go_wp2
   go_ret
   exact ⟨ret_int H6.out.symm,hk⟩
theorem badE_step {L:List Sym} {t:List Int} {p:Nat} (hp:p<t.length) (h:badE L (t.take p)=0):(numE L t[p]≠0→badE L t=numE L t[p])∧(numE L t[p]=0→badE L (t.take (p+1))=0):=by
 have e:t=t.take p++(t[p] :: t.drop (p+1)):=by rw [← List.drop_eq_getElem_cons hp,List.take_append_drop]
 constructor
 ·intro hn
  have h2:=badE_append L (t.take p) (t[p] :: t.drop (p+1)) h
  rw [← e] at h2
  rw [h2,badE]
  unfold numE at hn ⊢
  by_cases q1:(L.length:Int)≤t[p]
  ·rw [if_pos q1,if_pos q1]
  ·rw [if_neg q1,if_neg q1]
   rw [if_neg q1] at hn
   by_cases q2:t[p] < -99
   ·rw [if_pos q2,if_pos q2]
   ·rw [if_neg q2] at hn;exact absurd rfl hn
 ·intro hn
  rw [List.take_add_one,badE_append _ _ _ h,List.getElem?_eq_getElem hp]
  simpa [badE,numE] using hn
theorem checkE_long {L:List Sym} {t:List Int} (h:2000<t.length):checkE L t=20:=by simp [checkE,h]
theorem checkE_bad {L:List Sym} {t:List Int} (h:¬ 2000<t.length) (hb:badE L t≠0):checkE L t=badE L t:=by simp [checkE,h,hb]
theorem checkE_end {L:List Sym} {t:List Int} (h:¬ 2000<t.length) (hb:badE L t=0):checkE L t=if endI L t 0=(t.length:Int) then 0 else 23:=by
 have e:endI L t 0=(t.length:Int) ↔ need L 1 t=some 0:=by
  constructor
  ·intro h
   unfold endI endO at h
   cases hs:scan L 1 t with
   | none=>simp [hs] at h
   | some m=>
    simp [hs] at h
    obtain rfl:m=t.length:=by omega
    have:=(scan_need hs).2
    simpa using this
  ·intro h
   have:=need_scan (b:=[]) h
   rw [List.append_nil] at this
   simp [endI,endO,this]
 simp only [checkE,h,hb,if_false,ne_eq,not_true,e]
set_option maxHeartbeats 2000000 in
theorem check_any {n b:Nat} {w:World} {L:List Sym} (h:Sg n w b L) {ao:Option Addr} {cap:Nat} {t:List Int} (ht:IntsAt w ao t) (hm:t.length≤maxLen) :
  Calls Tryz.prog 161 #[.pointer (some ⟨b,0,none⟩),.slice ao t.length cap] w fun e w' => e=.returned (.int .i64 (checkE L t))∧Same0 w w' := by
 unfold maxLen at hm
 by_cases hl:2000<t.length
 ·have H:Hid (checkE L t=20):=checkE_long hl
  go_enter Tryz.func161,Tryz.ntmps161
  go_wp2
  go_ret
  exact ⟨ret_int H.out.symm,Kept.refl _ _⟩
 ·have hl' : t.length≤2000:=by omega
  go_enter Tryz.func161,Tryz.ntmps161
  go_wp2
  go_loop [15] (fun i=>∃ p:Nat,p≤t.length∧i=.int .i64 (p:Int)∧badE L (t.take p)=0) (fun i=>t.length-(intOf i).toNat)
  case atStart=>exact ⟨0,Nat.zero_le _,rfl,by simp [badE]⟩
  case round=>
   obtain ⟨p,h1,rfl,h2⟩:=hrel
   by_cases hlt:p<t.length
   ·obtain ⟨tb,off,rfl,htb,hc⟩:=ht.get hlt
    have i1:(0:Int)≤(p:Int):=by omega
    have i2:(p:Int)<(t.length:Int):=by omega
    have c:=checkNumber_any h t[p]
    obtain ⟨s1,s2⟩:=badE_step hlt h2
    by_cases hz:numE L t[p]=0
    ·have S2:Hid (badE L (t.take (p+1))=0):=s2 hz
     rw [hz] at c
     clear s1 s2 h2
     go_wp2_with (first | (go_at_call 204;refine c.mono ?_;rintro e w' ⟨rfl,rfl⟩))
     exact ⟨⟨p+1,by omega,by go_num,S2.out⟩,by simp [intOf];omega⟩
    ·have hb:=s1 hz
     have H:Hid (checkE L t=numE L t[p]):=by show _=_;rw [checkE_bad hl (by rw [hb];exact hz),hb]
     have hz' : (numE L t[p] == 0)=false:=by simpa using hz
     clear s1 s2 h2 hb
     go_wp2_with (first | (go_at_call 204;refine c.mono ?_;rintro e w' ⟨rfl,rfl⟩))
     go_ret
     exact ⟨ret_int H.out.symm,Kept.refl _ _⟩
   ·obtain rfl:p=t.length:=by omega
    rw [List.take_length] at h2
    have c:=end_any (cap:=cap) h ht hl' 0 (Nat.zero_le _)
    have he:=checkE_end hl h2
    by_cases hz:endI L t 0=(t.length:Int)
    ·have H:Hid (checkE L t=0):=by show _=_;rw [he,if_pos hz]
     rw [hz] at c
     clear he
     go_wp2_with (first | (go_at_call 109;refine c.mono ?_;rintro e w' ⟨rfl,hk1⟩))
     all_goals
      go_ret
      exact ⟨ret_int H.out.symm,hk1⟩
    ·have H:Hid (checkE L t=23):=by show _=_;rw [he,if_neg hz]
     have hz' : (endI L t 0 == (t.length:Int))=false:=by simpa using hz
     clear he
     go_wp2_with (first | (go_at_call 109;refine c.mono ?_;rintro e w' ⟨rfl,hk1⟩))
     all_goals
      go_ret
      exact ⟨ret_int H.out.symm,hk1⟩
set_option maxHeartbeats 2000000 in
theorem checkPlace_any {n b:Nat} {w:World} {L:List Sym} (h:Sg n w b L) {ao:Option Addr} {cap:Nat} {t:List Int} (ht:IntsAt w ao t) (hm:t.length≤maxLen) (a:Int) :
  Calls Tryz.prog 108 #[.pointer (some ⟨b,0,none⟩),.slice ao t.length cap,.int .i64 a] w fun e w' => e=.returned (.int .i64 (placeE L t a))∧Same0 w w' := by
 have c:=check_any (cap:=cap) h ht hm
 by_cases hz:checkE L t=0
 ·by_cases h1:a<0
  ·have H:Hid (placeE L t a=24):=by show _=_;simp [placeE,hz,h1]
   rw [hz] at c
   go_enter Tryz.func108,Tryz.ntmps108
   go_wp2_with (first | (go_at_call 161;refine c.mono ?_;rintro e w' ⟨rfl,hk1⟩))
   go_ret
   exact ⟨ret_int H.out.symm,hk1⟩
  ·by_cases h2:(t.length:Int)≤a
   ·have H:Hid (placeE L t a=24):=by show _=_;simp [placeE,hz,h2]
    rw [hz] at c
    go_enter Tryz.func108,Tryz.ntmps108
    go_wp2_with (first | (go_at_call 161;refine c.mono ?_;rintro e w' ⟨rfl,hk1⟩))
    go_ret
    exact ⟨ret_int H.out.symm,hk1⟩
   ·have H:Hid (placeE L t a=0):=by show _=_;simp [placeE,hz,h1,h2]
    rw [hz] at c
    go_enter Tryz.func108,Tryz.ntmps108
    go_wp2_with (first | (go_at_call 161;refine c.mono ?_;rintro e w' ⟨rfl,hk1⟩))
    go_ret
    exact ⟨ret_int H.out.symm,hk1⟩
 ·have H:Hid (placeE L t a=checkE L t):=by show _=_;simp [placeE,hz]
  have hz' : (checkE L t == 0)=false:=by simpa using hz
  go_enter Tryz.func108,Tryz.ntmps108
  go_wp2_with (first | (go_at_call 161;refine c.mono ?_;rintro e w' ⟨rfl,hk1⟩))
  go_ret
  exact ⟨ret_int H.out.symm,hk1⟩
def iv (xs:List Int):List Value:=xs.map (Value.int .i64)
theorem iv_length (xs:List Int):(iv xs).length=xs.length:=by simp [iv]
theorem iv_append (xs ys:List Int):iv (xs++ys)=iv xs++iv ys:=by simp [iv]
theorem iv_get {xs:List Int} {i:Nat} (h:i<xs.length):(iv xs)[i]? = some (.int .i64 xs[i]):=by simp [iv,h]
theorem info_intT:(Tryz.prog.info? 3).map (fun i=>(i.zero,i.size,i.bytes))=some (some (.int .i64 0),1,8):=by kernel_rfl
abbrev Row (base:Nat) (w:World) (v:Value) (xs:List Int):Prop:=w.ownsRow base 3 1 v xs.length (iv xs)
def ofN (l:List Nat):List Int:=l.map (fun (x:Nat)=>(x:Int))
def argsA (L:List Sym) (t:List Int) (a:Int):List Int:=if placeE L t a=0 then ofN (argsN L t a.toNat) else []
theorem place_zero {L:List Sym} {t:List Int} {a:Int} (h:placeE L t a=0):∃ p:Nat,a=(p:Int)∧p<t.length∧checkE L t=0∧t.length≤2000∧IsT L t:=by
 unfold placeE at h
 by_cases hz:checkE L t=0
 ·simp only [hz,ne_eq,not_true,if_false] at h
  have:¬ (a<0∨(t.length:Int)≤a):=by intro hh;simp [hh] at h
  obtain ⟨h1,_,h2⟩:=checkE_zero.1 hz
  exact ⟨a.toNat,by omega,by omega,hz,h1,h2⟩
 ·simp [hz] at h
theorem endI_of {L:List Sym} {t:List Int} (h:IsT L t) {p:Nat} (hp:p<t.length):endI L t p=(endN L t p:Int):=by
 rw [endI,endO_some h hp]
theorem take_set {α:Type} {l:List α} {k:Nat} (h:k<l.length) (u:α):(l.set k u).take (k+1)=l.take k ++ [u]:=by
 rw [List.take_add_one,List.take_set_of_le (Nat.le_refl _)]
 simp [h]
theorem Same0.grown {w w1 w2:World} (h:Same0 w w1) (hg:w1.grownBy w2 none):Same0 w w2:=Kept.grown h hg (fun _ e _=>by cases e)
theorem Same0.own {w w1:World} (h:Same0 w w1) {g o:Nat} (hg:w.heap.size≤g) (u:Value):Same0 w (w1.setCell ⟨g,o,none⟩ u):=h.setCell (p:=⟨g,o,none⟩) (fun hlt=>by simp at hlt;omega) u
theorem row_put {w:World} {base g cap n:Nat} {e:TypeId} {ys:List Value} (h:w.ownsRow base e 1 (.slice (some ⟨g,0,none⟩) n cap) n ys) {k:Nat} (hk:k<n):∃ old,w.cell? ⟨g,k,none⟩=some old∧w.frozen? ⟨g,k,none⟩=false:=by
 have hl:k<ys.length:=by have:=h.1;omega
 exact ⟨ys[k],(h.cellAt k (by omega)).trans (List.getElem?_eq_getElem hl),h.frozenAt k⟩
def Laid (base g A k:Nat) (xs:List Int) (w wr:World):Prop:=∃ ys:List Value,wr.ownsRow base 3 1 (.slice (some ⟨g,0,none⟩) A A) A ys∧ys.take k=iv xs∧Same0 w wr
theorem Laid.next {base g A k:Nat} {xs:List Int} {w wr:World} (h:Laid base g A k xs w wr) (hk:k<A) (hg:w.heap.size≤g) (x:Int):Laid base g A (k+1) (xs ++ [x]) w (wr.setCell ⟨g,k,none⟩ (.int .i64 x)):=by
 obtain ⟨ys,h1,h2,h3⟩:=h
 have hl:ys.length=A:=by have:=h1.1;omega
 refine ⟨ys.set k (.int .i64 x),(h1.stored k _).1,?_,h3.own hg _⟩
 rw [take_set (by omega),h2,iv_append];rfl
theorem Laid.same {base g A k:Nat} {xs:List Int} {w wr w1:World} (h:Laid base g A k xs w wr) (hk:Same0 wr w1):Laid base g A k xs w w1:=by
 obtain ⟨ys,h1,h2,h3⟩:=h
 exact ⟨ys,hk.row h1 (fun _ _ f=>f),h2,h3.trans' hk⟩
theorem Laid.row {base g A:Nat} {xs:List Int} {w wr:World} (h:Laid base g A A xs w wr):Row base wr (.slice (some ⟨g,0,none⟩) A A) xs∧xs.length=A:=by
 obtain ⟨ys,h1,h2,_⟩:=h
 have hl:ys.length=A:=by have:=h1.1;omega
 rw [List.take_of_length_le (by omega)] at h2
 subst h2
 have:xs.length=A:=by rw [← hl,iv_length]
 unfold Row
 rw [this]
 exact ⟨h1,rfl⟩
set_option maxHeartbeats 2000000 in
theorem args_any {n b:Nat} {w:World} {L:List Sym} (h:Sg n w b L) {ao:Option Addr} {cap:Nat} {t:List Int} (ht:IntsAt w ao t) (hm:t.length≤maxLen) (a:Int) :
  Calls Tryz.prog 233 #[.pointer (some ⟨b,0,none⟩),.slice ao t.length cap,.int .i64 a] w fun e w' => ∃ v,e=.returned (.tuple #[v,.int .i64 (placeE L t a)])∧Row w.heap.size w' v (argsA L t a)∧Same0 w w' := by
 have c:=checkPlace_any (cap:=cap) h ht hm a
 by_cases hz:placeE L t a=0
 ·obtain ⟨p,rfl,hp,h0,h1,h2⟩:=place_zero hz
  have H:Hid (placeE L t p=0∧argsA L t p=ofN (starts L t (arN L t[p]) (p+1))):=by
   refine ⟨hz,?_⟩
   rw [argsA,if_pos hz];simp only [Int.toNat_natCast];rw [argsN_eq hp]
  have hf:=(Forest.one h2 hp).kids.2
  have har:=arN_le h.2 t[p]
  have c1:∀ w1,Same0 w w1→Calls Tryz.prog 162 #[.pointer (some ⟨b,0,none⟩),.int .i64 t[p]] w1 fun e w' => e=.returned (.int .i64 ((arN L t[p]:Nat):Int))∧Same0 w1 w' := fun w1 hk=>arity_any (h.same hk) t[p]
  have c2:∀ w1 q,Same0 w w1→q<t.length→Calls Tryz.prog 109 #[.pointer (some ⟨b,0,none⟩),.slice ao t.length cap,.int .i64 (q:Int)] w1 fun e w' => e=.returned (.int .i64 (endN L t q:Int))∧Same0 w1 w' := fun w1 q hk hq=>by
   have:=end_any (cap:=cap) (h.same hk) (ht.same hk) h1 q (by omega)
   rwa [endI_of h2 hq] at this
  have i1:(0:Int)≤(p:Int):=by omega
  have i2:(p:Int)<(t.length:Int):=by omega
  obtain ⟨i,hi,hz0,hz1,hz2⟩:=info_parts info_intT
  obtain ⟨tb,off,rfl,htb,hc⟩:=ht.get hp
  have hc' : ∀ w1,Same0 w w1→w1.cell? ⟨tb,off+p,none⟩=some (.int .i64 t[p]):=fun w1 hk=>(hk.cell (p:=⟨tb,off+p,none⟩) htb (fun f=>f)).trans hc
  rw [hz] at c
  generalize hA:arN L t[p]=A at *
  have hA:Hid (arN L t[p]=A):=hA
  go_enter Tryz.func233,Tryz.ntmps233
  go_wp2_with (first | (go_at_call 108;refine c.mono ?_;rintro e w1 ⟨rfl,hk1⟩;have d1:=hc' _ hk1) | (go_at_call 162;refine (c1 _ hk1).mono ?_;rintro e w2 ⟨rfl,hk2⟩;have hk3:=hk1.trans' hk2) | (at_make;refine wpList_make_full _ rfl _ _ 51 rfl w.heap.size 3 i _ 1 Tryz.underlying51 hi hz0 hz1 _ _ _ _ A rfl rfl rfl rfl (by rw [hz2];omega) (by unfold maxLen;omega) hk3.size ?_;intro w3 hown hgrow))
  have hg:w.heap.size≤w2.heap.size:=hk3.size
  have L0:Laid w.heap.size w2.heap.size A 0 (ofN (starts L t 0 (p+1))) w w3:=⟨_,hown,by simp [iv,ofN,starts],hk3.grown hgrow⟩
  clear hown
  generalize w2.heap.size=g at *
  go_loopw [10,30] (fun nx i wr=>∃ k:Nat,k≤A∧i=.int .i64 (k:Int)∧nx=.int .i64 (past L t k (p+1):Int)∧Laid w.heap.size g A k (ofN (starts L t k (p+1))) w wr) (fun _ i _=>A-(intOf i).toNat)
  case atStart=>exact ⟨0,Nat.zero_le _,rfl,rfl,L0⟩
  case round=>
   obtain ⟨k,hkA,rfl,rfl,hL⟩:=hrel
   by_cases hlt:k<A
   ·have hfk:=hf.drop (i:=k) (by omega)
    rw [show A-k=(A-k-1)+1 by omega] at hfk
    have hq:past L t k (p+1)<t.length:=by have:=hfk.pos;have:=hfk.le;omega
    have e1:Hid (past L t (k+1) (p+1)=endN L t (past L t k (p+1))):=past_succ L t k (p+1)
    have e2:Hid (ofN (starts L t (k+1) (p+1))=ofN (starts L t k (p+1)) ++ [((past L t k (p+1):Nat):Int)]):=by show _=_;rw [starts_snoc];simp [ofN]
    have hLn:=hL.next hlt hg ((past L t k (p+1):Nat):Int)
    have hsm:Same0 w (wr.setCell ⟨g,k,none⟩ (.int .i64 ((past L t k (p+1):Nat):Int))):=by obtain ⟨ys,_,_,h3⟩:=hLn;exact h3
    obtain ⟨old,f2,f1⟩:∃ old,wr.cell? ⟨g,k,none⟩=some old∧wr.frozen? ⟨g,k,none⟩=false:=by obtain ⟨ys,h1,_⟩:=hL;exact row_put h1 hlt
    have j1:(0:Int)≤(k:Int):=by omega
    have j2:(k:Int)<(A:Int):=by omega
    have c3:=c2 _ _ hsm hq
    clear c1 c2 c hc' hfk hL
    generalize hpk:past L t k (p+1)=P at *
    generalize hpe:endN L t P=E at *
    go_wp2_with (first | (go_at_call 109;refine c3.mono ?_;rintro e w5 ⟨rfl,hk5⟩))
    refine ⟨⟨k+1,by omega,by go_num,?_,?_⟩,by simp [intOf];omega⟩
    ·rw [e1.out]
    ·rw [e2.out];exact hLn.same hk5
   ·obtain rfl:k=A:=by omega
    obtain ⟨hr,hl⟩:=hL.row
    obtain ⟨_,_,_,hs⟩:=hL
    clear c1 c2 c hc'
    go_wp2
    go_ret2
    refine ⟨.slice (some ⟨g,0,none⟩) k k,?_,?_,hs⟩
    ·rw [H.out.1];rfl
    ·rw [H.out.2];exact hr
 ·have H:Hid (argsA L t a=[]):=by show _=_;rw [argsA,if_neg hz]
  have hz' : (placeE L t a == 0)=false:=by simpa using hz
  go_enter Tryz.func233,Tryz.ntmps233
  go_wp2_with (first | (go_at_call 108;refine c.mono ?_;rintro e w1 ⟨rfl,hk1⟩))
  go_ret2
  refine ⟨_,rfl,?_,hk1⟩
  rw [H.out]
  exact World.ownsRow_nil _ _ _ _
end Go.Proofs.YtflcpepjmonlpaaGreatDoor
namespace Go.Proofs.YtflcpepjmonlpaaGreatDoor
set_option maxRecDepth 100000
set_option linter.unusedVariables false
open Go.RowKit
attribute [local go_sem ↓] Go.wp_at_zero Go.wp_at_succ
end Go.Proofs.YtflcpepjmonlpaaGreatDoor
namespace Go.Proofs.YtflcpepjmonlpaaGreatDoor
set_option linter.unusedVariables false
def solF (L:List Sym) (J:List Int) (m:Nat):Option ((Int→Int) × Int):=
 match uniF L J ((J.length+1) * J.length+J.length+3) (ld0 J) [(0,endN L J 0,m)] with
 | some (some ld)=>
  match sizF L J ld (J.length+1) (fun _=>0) 0 with
  | some (k,_)=>if k = -1 then none else some (ld,k)
  | none=>none
 | _=>none
structure Sol (L:List Sym) (J:List Int) (m:Nat):Prop where
 uni:∃ res,UOk L J res ((J.length+1) * J.length+J.length+3) (ld0 J) [(0,endN L J 0,m)]∧(res=none→solF L J m=none)∧∀ ld,res=some ld→LdOk J ld∧∃ k sz', sizF L J ld (J.length+1) (fun _=>0) 0=some (k,sz')∧(k = -1→solF L J m=none)∧(k ≠ -1→solF L J m=some (ld,k)∧∃ u,Val L J ld 0 u∧k=min (u.length:Int) 2001)
theorem unk_le (N:Nat) (sz:Nat→Int):unk N sz≤N:=by
 have:=List.countP_le_length (p:=fun p:Nat=>decide (sz p=0)) (l:=List.range N)
 simpa [unk] using this
theorem sol_any {L:List Sym} {J:List Int} (hT:Trs L J) (hv:∀ x∈J, -198≤x) {m:Nat} (h0:0<J.length) (hm:m<J.length):Sol L J m:=by
 have hl:=ld0_ok hv
 have hr:RunOk L J (0,endN L J 0,m):=⟨1,endN L J m,hT 0 h0,hT m hm⟩
 have hroot:=roots_len J (ld0 J)
 have he:=hT.lt h0
 have hb:(J.length+1) * roots J (ld0 J)+runsN [(0,endN L J 0,m)]<(J.length+1) * J.length+J.length+3:=by
  have:=Nat.mul_le_mul_left (J.length+1) hroot
  simp only [runsN];omega
 obtain ⟨res,e1,e2⟩:=uni_ends hT _ _ _ hl (fun r hr' => by simp at hr'; rw [hr'];exact hr) hb
 refine ⟨res,⟨hT,hl,fun r hr' => by simp at hr'; rw [hr'];exact hr,e1,by simp;omega⟩,?_,?_⟩
 ·intro e
  rw [e] at e1
  unfold solF;rw [e1]
 ·intro ld e
  have hld:=e2 ld e
  rw [e] at e1
  have hz:SzOk (fun _=>0):=fun p=>.inr ⟨by simp,by simp⟩
  have hk:Known L J ld (fun _=>0):=fun p _ _ h=>by simp at h
  have p0:UPart J 0:=part_nat (p:=0) h0
  obtain ⟨k,sz', g1,g2⟩:=sizF_ends hT hld (J.length+1) (fun _=>0) 0 p0 hz (by have:=unk_le J.length (fun _=>0);omega)
  obtain ⟨-,g4⟩:=sizF_known hT hld _ _ _ _ _ p0 hz hk g1
  refine ⟨hld,k,sz', g1,?_,?_⟩
  ·intro e
   unfold solF;rw [e1];simp only [g1];rw [if_pos e]
  ·intro e
   refine ⟨by unfold solF;rw [e1];simp only [g1];rw [if_neg e],g4 e⟩
structure Closed (L:List Sym) (J:List Int) (m:Nat) (ld:Int→Int):Prop where
 trs:Trs L J
 ok:LdOk J ld
 both:ld 0=ld m
 args:∀ P:Nat,P<J.length→0≤at' J P→∀ i,i<arN L (at' J P)→ld (past L J i (P+1):Nat)=ld (past L J i ((ld P).toNat+1):Nat)
 var:∀ P:Nat,P<J.length→at' J P<0→ld P=ld (at' J P)
structure Good (L:List Sym) (J:List Int) (val:Int→List Int):Prop where
 sym:∀ p:Nat,p<J.length→0≤at' J p→val p=at' J p :: (kidsL L J p).flatMap (fun k:Nat=>val (k:Int))
 var:∀ p:Nat,p<J.length→at' J p<0→val p=val (at' J p)
 isT:∀ x,UPart J x→IsT L (val x)
def vstep (o:List Int) (x:Int):List Int:=if isV x=true∧¬ (-x)∈o then o ++ [-x] else o
def vs (o:List Int) (t:List Int):List Int:=t.foldl vstep o
def varsL (t:List Int):List Int:=vs [] t
theorem vs_snoc (o a:List Int) (x:Int):vs o (a ++ [x])=vstep (vs o a) x:=by simp [vs]
theorem vs_take {o t:List Int} {k:Nat} (h:k<t.length):vs o (t.take (k+1))=vstep (vs o (t.take k)) t[k]:=by
 rw [List.take_add_one,List.getElem?_eq_getElem h];exact vs_snoc _ _ _
theorem isV_iff {x:Int}:isV x=true ↔ -99≤x∧x ≤ -1:=by simp [isV]
theorem vs_len (o t:List Int):(vs o t).length≤o.length+t.length:=by
 induction t generalizing o with
 | nil=>simp [vs]
 | cons x r ih=>
  have:=ih (vstep o x)
  have h2:(vstep o x).length≤o.length+1:=by unfold vstep;split <;> simp
  simp only [vs,List.foldl_cons,List.length_cons] at *
  omega
def pl (o:List Int) (x:Int):Int:=if isV x=true then -((o.idxOf (-x):Int)+1) else x
structure VarT (L:List Sym) (J:List Int) (ld:Int→Int) (f:Int→List Int):Prop where
 val:∀ n u,Val L J ld n u→f n=u
 none:∀ n,(¬ ∃ u,Val L J ld n u)→f n=[n]
abbrev Tb:=Nat→List Int
def updT (σ:Tb) (v:Nat) (u:List Int):Tb:=fun x=>if x=v then u else σ x
def noT:Tb:=fun _=>[]
def headT (L:List Sym) (ts:List Int):List Int:=ts.take ((scan L 1 ts).getD 0)
def mw (L:List Sym):List Int→List Int→Tb→Option Tb
 | [],_,σ=>some σ
 | n :: r,ts,σ=>
  if 0≤n then (match ts with | []=>none | x :: ts' => if x=n then mw L r ts' σ else none)
  else if σ (-n).toNat=[] then mw L r (ts.drop (headT L ts).length) (updT σ (-n).toNat (headT L ts))
  else if σ (-n).toNat=headT L ts then mw L r (ts.drop (headT L ts).length) σ else none
def Even (L:List Sym) (p ts:List Int):Prop:=∃ j,need L j p=some 0∧need L j ts=some 0
abbrev Bd:=Int × List Int
end Go.Proofs.YtflcpepjmonlpaaGreatDoor
namespace Go.Proofs.YtflcpepjmonlpaaGreatDoor
set_option maxRecDepth 100000
set_option linter.unusedVariables false
open Go.RowKit
attribute [local go_sem ↓] Go.wp_at_zero Go.wp_at_succ
structure Part where
 ao:Option Addr
 cap:Nat
 xs:List Int
theorem iv_oneCell (xs:List Int):∀ v∈iv xs,v.oneCell' = true:=by
 intro v hv
 simp only [iv,List.mem_map] at hv
 obtain ⟨x,_,rfl⟩:=hv
 rfl
theorem IntsAt.src {w:World} {ao:Option Addr} {xs:List Int} (h:IntsAt w ao xs) (hn:0<(iv xs).length):∃ ad,ao=some ad∧∀ j v,(iv xs)[j]? = some v→w.cell? (ad.add j)=some v:=by
 rcases h with rfl | ⟨b,off,rfl,_,hc⟩
 ·simp [iv] at hn
 ·refine ⟨_,rfl,fun j v hj=>?_⟩
  have hlt:j<xs.length:=by
   have:=(List.getElem?_eq_some_iff.1 hj).1
   rwa [iv_length] at this
  rw [iv_get hlt] at hj
  cases hj
  have:=hc j hlt
  unfold Addr.add
  split
  ·rename_i h0;subst h0;first | (simp;done) | (simpa using this)
  ·exact this
def sameB (xs ys:List Int):Bool:=decide (xs=ys)
theorem same_len {xs ys:List Int} (h:xs.length≠ys.length):sameB xs ys=false:=by
 simp [sameB];intro e;exact h (by rw [e])
theorem take_eq_succ {xs ys:List Int} {k:Nat} (h:xs.take k=ys.take k) (hx:k<xs.length) (hy:k<ys.length) (he:xs[k]=ys[k]):xs.take (k+1)=ys.take (k+1):=by
 rw [List.take_add_one,List.take_add_one,h,List.getElem?_eq_getElem hx,List.getElem?_eq_getElem hy,he]
set_option maxHeartbeats 2000000 in
theorem same_any {w:World} {ao bo:Option Addr} {acap bcap:Nat} {xs ys:List Int} (hx:IntsAt w ao xs) (hy:IntsAt w bo ys) (hm:xs.length≤maxLen) :
  Calls Tryz.prog 80 #[.slice ao xs.length acap,.slice bo ys.length bcap] w fun e w' => e=.returned (.bool (sameB xs ys))∧Same0 w w' := by
 unfold maxLen at hm
 by_cases hl:xs.length=ys.length
 ·have hl' : (xs.length:Int)=(ys.length:Int):=by omega
  go_enter Tryz.func80,Tryz.ntmps80
  go_wp2
  go_loopw [5] (fun i wr=>∃ k:Nat,k≤xs.length∧i=.int .i64 (k:Int)∧Hid (xs.take k=ys.take k)∧Same0 w wr) (fun i _=>xs.length-(intOf i).toNat)
  case atStart=>exact ⟨0,Nat.zero_le _,rfl,by simp [Hid],Kept.refl _ _⟩
  case round=>
   obtain ⟨k,hk,rfl,ht,hs⟩:=hrel
   by_cases hlt:k<xs.length
   ·have hlt' : k<ys.length:=by omega
    obtain ⟨ab,ao', rfl,hab,hac⟩:=(hx.same hs).get hlt
    obtain ⟨bb,bo', rfl,hbb,hbc⟩:=(hy.same hs).get hlt'
    have i1:(0:Int)≤(k:Int):=by omega
    have i2:(k:Int)<(xs.length:Int):=by omega
    have i3:(k:Int)<(ys.length:Int):=by omega
    have d1:wr.drew.cell? ⟨ab,ao' + k,none⟩=some (.int .i64 xs[k]):=hac
    have d2:wr.drew.cell? ⟨bb,bo' + k,none⟩=some (.int .i64 ys[k]):=hbc
    by_cases he:xs[k]=ys[k]
    ·have hn:Hid (xs.take (k+1)=ys.take (k+1)):=take_eq_succ ht.out hlt hlt' he
     have he' : (xs[k] == ys[k])=true:=by simpa using he
     go_wp2
     go_quiet (fail)
     go_wp2
     refine ⟨⟨k+1,by omega,by go_num,hn,hs.drewN _⟩,by simp [intOf];omega⟩
    ·have H:Hid (sameB xs ys=false):=by
      show _=_
      simp only [sameB,decide_eq_false_iff_not]
      intro e;subst e;exact he rfl
     have he' : (xs[k] == ys[k])=false:=by simpa using he
     go_wp2
     go_quiet (fail)
     go_wp2
     go_ret
     exact ⟨by rw [H.out];rfl,hs.drewN _⟩
   ·have H:Hid (sameB xs ys=true):=by
     have:=ht.out
     rw [List.take_of_length_le (by omega),List.take_of_length_le (by omega)] at this
     show _=_
     simpa [sameB] using this
    go_wp2
    go_ret
    exact ⟨by rw [H.out];rfl,hs⟩
 ·have hl' : ¬ (xs.length:Int)=(ys.length:Int):=by omega
  have H:Hid (sameB xs ys=false):=same_len hl
  go_enter Tryz.func80,Tryz.ntmps80
  go_wp2
  go_ret
  exact ⟨by rw [H.out];rfl,Kept.refl _ _⟩
structure Both (n0:Nat) (w0 w:World) (b rb:Nat) (L:List Sym) (sv:Value) (mr:Option Nat) (rv:Value):Prop where
 sg:SigAt w b L sv mr
 rf:RefAt w rb L rv
 f:∀ k,Foot b sv mr k→n0≤k
 g:∀ k,RFoot rb rv k→n0≤k
 d:∀ k,Foot b sv mr k→¬ RFoot rb rv k
 k:Kept (From n0) w0 w
 a:Ars L
theorem ints_new (w:World) (xs:List Int) (T:TypeId) {o:Obj} (ho:o=.cells (iv xs).toArray T (0,0)):IntsAt (w.alloc o) (some ⟨w.heap.size,0,none⟩) xs:=by
 subst ho
 refine .inr ⟨_,_,rfl,by simp,fun i hi=>?_⟩
 rw [Nat.zero_add,cellAt (heap_alloc_new w _)]
 simpa using iv_get hi
theorem Row.ints {base:Nat} {w:World} {v:Value} {xs:List Int} (h:Row base w v xs):∃ ao cap,v=.slice ao xs.length cap∧IntsAt w ao xs∧xs.length≤cap∧(∀ a,ao=some a→base≤a.block∧a.block<w.heap.size):=by
 rcases h.2 with ⟨rfl,h0⟩ | ⟨g,cap,cur,rfl,hb,hg,h1,h2,h3,h4⟩
 ·have:xs=[]:=List.eq_nil_of_length_eq_zero h0
  subst this
  exact ⟨none,0,rfl,.inl rfl,Nat.le_refl _,fun a e=>by cases e⟩
 ·refine ⟨_,cap,rfl,.inr ⟨g,0,rfl,lt_of_at hg,fun i hi=>?_⟩,h1,fun a e=>by cases e;exact ⟨hb,lt_of_at hg⟩⟩
  rw [Nat.zero_add,h.cellAt i (by omega)]
  exact iv_get hi
abbrev zS:Sym:=⟨⟨#[122]⟩,0,false⟩
abbrev L3:List Sym:=[zS,aS,aAdd]
theorem wpList_push {w0:World} {ops:Array Oper} {rest:List Oper} {o:Oper} {a:Act} {Q:Exit→Act→World→Prop} (hgd:o.guard=none) (s x:Operand) (t:TypeId)
  (ho:o.op=.call { callee:=.builtin .append,args:=#[s,x],argTypes:=#[t,t] }) (ht:Tryz.prog.underlying t=some (.slice 3))
  (base:Nat) (xs:List Int) (v:Value) (hs:a.eval s=v) (hr:Row base w0 v xs) (y:Int) (hx:a.eval x=.slice (some ⟨w0.heap.size,0,none⟩) 1 1) (hb:base≤w0.heap.size) (hsz:(xs.length+1) * 8≤140737488355328)
  (h:∀ g cap w', Row base w' (.slice (some ⟨g,0,none⟩) (xs.length+1) cap) (xs ++ [y])→Kept (fun k=>v.ownBlock=some k) w0 w' → (v.ownBlock=some g∨w0.heap.size≤g)→wpList Tryz.prog ops Q rest (a.put o.dst (.slice (some ⟨g,0,none⟩) (xs.length+1) cap)) w') :
  wpList Tryz.prog ops Q (o :: rest) a (w0.alloc (.cells #[.int .i64 y] 3)):=by
 obtain ⟨i,hi,hz0,hz1,hz2⟩:=info_parts info_intT
 refine wpList_append_lies _ hgd s x t ho base 3 i (.int .i64 0) 1 8 ht hi hz0 hz1 hz2 rfl (by decide) v xs.length (iv xs) hs (hr.alloc _) ⟨w0.heap.size,0,none⟩ 1 1 [.int .i64 y] hx rfl (cell_one_new _ _ _) (by simp [Value.oneCell']) (by omega) (by unfold maxLen;omega) hsz (by simp;omega) (w0.heap.size+1) (by simp) ?_
 intro g cap w' hown hgrow hat hlt
 refine h g cap w' ?_ ?_ (hat.imp id (fun e=>by omega))
 ·unfold Row;rw [iv_append,List.length_append];exact hown
 ·exact Kept.grown (Kept.alloc (Kept.refl _ w0) _) hgrow (fun _ e _=>e)
theorem Same0.onto {w w0 w' : World} {v:Value} {xs:List Int} (h:Same0 w w0) (hr:Row w.heap.size w0 v xs) (hk:Kept (fun k=>v.ownBlock=some k) w0 w'):Same0 w w' :=
 h.trans hk (fun i hi e=>by have:=(hr.lt i e).1;omega)
end Go.Proofs.YtflcpepjmonlpaaGreatDoor
namespace Go.Proofs.YtflcpepjmonlpaaGreatDoor
set_option linter.unusedVariables false
open Go.RowKit
attribute [local go_sem ↓] Go.wp_at_zero Go.wp_at_succ
def inB (l:List Int) (n:Int):Bool:=decide (n∈l)
theorem vstep_yes {o:List Int} {x:Int} (h1:isV x=true) (h2:inB o (-x)=false):vstep o x=o ++ [-x]:=by
 rw [vstep,if_pos ⟨h1,by simpa [inB] using h2⟩]
theorem vstep_in {o:List Int} {x:Int} (h2:inB o (-x)=true):vstep o x=o:=by
 rw [vstep,if_neg (by simp [inB] at h2;simp [h2])]
theorem vstep_no {o:List Int} {x:Int} (h1:isV x=false):vstep o x=o:=by
 rw [vstep,if_neg (by simp [h1])]
theorem zeros_bool:Tryz.zeroCells344=Array.replicate 100 (.bool false):=by kernel_rfl
def MetAt (w:World) (A:Nat) (o:List Int):Prop:=∃ cs,w.heap[A]? = some (.cells cs 344 (0,0))∧cs.size=100∧∀ v:Nat,1≤v→v≤99→cs[v]? = some (.bool (inB o (v:Int)))
theorem met_new (w:World):MetAt (w.alloc (.cells Tryz.zeroCells344 344)) w.heap.size []:=by
 refine ⟨_,heap_alloc_new w _,by rw [zeros_bool];simp,fun v h1 h2=>?_⟩
 rw [zeros_bool,Array.getElem?_replicate,if_pos (by omega)]
 simp [inB]
theorem MetAt.kept {w w' : World} {A:Nat} {o:List Int} {S:Nat→Prop} (h:MetAt w A o) (hk:Kept S w w') (hn:¬ S A):MetAt w' A o:=by
 obtain ⟨cs,h1,h2⟩:=h
 exact ⟨cs,hk.at h1 hn,h2⟩
theorem MetAt.cell {w:World} {A:Nat} {o:List Int} (h:MetAt w A o) {v:Nat} (h1:1≤v) (h2:v≤99):w.cell? ⟨A,v,none⟩=some (.bool (inB o (v:Int)))∧w.frozen? ⟨A,v,none⟩=false:=by
 obtain ⟨cs,q1,q2,q3⟩:=h
 exact ⟨(cellAt q1 v).trans (q3 v h1 h2),frozenAt q1 v⟩
theorem MetAt.set {w:World} {A:Nat} {o:List Int} (h:MetAt w A o) {v:Nat} (h1:1≤v) (h2:v≤99):MetAt (w.setCell ⟨A,v,none⟩ (.bool true)) A (o ++ [(v:Int)]):=by
 obtain ⟨cs,q1,q2,q3⟩:=h
 refine ⟨_,setAt q1 v _,by simpa using q2,fun u g1 g2=>?_⟩
 rw [Array.getElem?_setIfInBounds]
 by_cases e:v=u
 ·subst e;rw [if_pos rfl,if_pos (by omega)];simp [inB]
 ·rw [if_neg e,q3 u g1 g2]
  congr 2
  simp [inB];omega
set_option maxHeartbeats 4000000 in
theorem tvars_any {w:World} {ao:Option Addr} {cap:Nat} {t:List Int} (ht:IntsAt w ao t) (hm:t.length * 8≤140737488351232) :
  Calls Tryz.prog 165 #[.slice ao t.length cap] w fun e w' => ∃ v,e=.returned v∧Row w.heap.size w' v (varsL t)∧Same0 w w' := by
 have M0:=met_new w
 have K0:Same0 w (w.alloc (.cells Tryz.zeroCells344 344)):=(Kept.refl _ w).alloc _
 go_enter Tryz.func165,Tryz.ntmps165
 go_wp2
 go_loopw [4,9] (fun ov i wr=>∃ k:Nat,k≤t.length∧i=.int .i64 (k:Int)∧Row w.heap.size wr ov (varsL (t.take k))∧MetAt wr w.heap.size (varsL (t.take k))∧ov.ownBlock≠some w.heap.size∧Same0 w wr) (fun _ i _=>t.length-(intOf i).toNat)
 case atStart=>exact ⟨0,Nat.zero_le _,rfl,World.ownsRow_nil _ _ _ _,M0,by simp [Value.ownBlock],K0⟩
 case round=>
  clear M0 K0
  obtain ⟨k,hk,rfl,hr,hM,hne,hs⟩:=hrel
  obtain ⟨oo,ocap,rfl⟩:=row_shape hr
  by_cases hlt:k<t.length
  ·obtain ⟨b,off,rfl,_,hc⟩:=(ht.same hs).get hlt
   have i1:(0:Int)≤(k:Int):=by omega
   have i2:(k:Int)<(t.length:Int):=by omega
   have E:Hid (varsL (t.take (k+1))=vstep (varsL (t.take k)) t[k]):=vs_take hlt
   have hl:=vs_len [] (t.take k)
   have hl2:(varsL (t.take k)).length≤t.length:=by simp at hl;unfold varsL;omega
   have cV:=fun w' => isVariable_any t[k] w'
   clear hl
   generalize hO:varsL (t.take k)=O at *
   generalize hX:t[k]=x at *
   cases hv:isV x with
   | false=>
    have E1:Hid (varsL (t.take (k+1))=O):=by rw [E.out];exact vstep_no hv
    simp only [hv] at cV
    go_wp2_with (first | (go_at_call 213;refine (cV _).mono ?_;rintro e wr ⟨rfl,rfl⟩))
    have hrE:Row w.heap.size wr (.slice oo O.length ocap) (varsL (t.take (k+1))):=by rw [E1.out];exact hr
    have hME:MetAt wr w.heap.size (varsL (t.take (k+1))):=by rw [E1.out];exact hM
    exact ⟨⟨k+1,by omega,by go_num,hrE,hME,hne,hs⟩,by simp [intOf];omega⟩
   | true=>
    simp only [hv] at cV
    have hx:=isV_iff.1 hv
    obtain ⟨v,rfl⟩:∃ v:Nat,x = -(v:Int):=⟨(-x).toNat,by omega⟩
    have hv1:1≤v:=by omega
    have hv2:v≤99:=by omega
    obtain ⟨q1,q2⟩:=hM.cell hv1 hv2
    have j1:(0:Int)≤(v:Int):=by omega
    have j2:(v:Int)<100:=by omega
    cases hin:inB O (v:Int) with
    | true=>
     have E1:Hid (varsL (t.take (k+1))=O):=by rw [E.out];exact vstep_in (by simpa using hin)
     rw [hin] at q1
     go_wp2_with (first | (go_at_call 213;refine (cV _).mono ?_;rintro e wr ⟨rfl,rfl⟩))
     have hrE:Row w.heap.size wr (.slice oo O.length ocap) (varsL (t.take (k+1))):=by rw [E1.out];exact hr
     have hME:MetAt wr w.heap.size (varsL (t.take (k+1))):=by rw [E1.out];exact hM
     exact ⟨⟨k+1,by omega,by go_num,hrE,hME,hne,hs⟩,by simp [intOf];omega⟩
    | false=>
     have E1:Hid (varsL (t.take (k+1))=O ++ [(v:Int)]):=by show _=_;rw [E.out,vstep_yes hv (by simpa using hin)];simp
     rw [hin] at q1
     have hb8:(O.length+1) * 8≤140737488355328:=by omega
     have hMs:=hM.set hv1 hv2
     have ks:Kept (fun k=>k=w.heap.size) wr (wr.setCell ⟨w.heap.size,v,none⟩ (.bool true)):=Kept.setCell (S:=fun k=>k=w.heap.size) (p:=⟨w.heap.size,v,none⟩) (Kept.refl _ _) (fun _=>rfl) _
     have hrs:Row w.heap.size (wr.setCell ⟨w.heap.size,v,none⟩ (.bool true)) (.slice oo O.length ocap) O:=ks.row hr (fun k e e' => hne (by rw [e,e']))
     have hss:Same0 w (wr.setCell ⟨w.heap.size,v,none⟩ (.bool true)):=hs.own (Nat.le_refl _) _
     have hsz:=hss.size
     have hAl:w.heap.size<wr.heap.size:=by obtain ⟨cs,q,_⟩:=hM;exact lt_of_at q
     have E3:Hid ((wr.setCell ⟨w.heap.size,v,none⟩ (.bool true)).heap.size=wr.heap.size):=by show _=_;simp [World.setCell]
     clear hM hr
     go_wp2_with (first | (go_at_call 213;refine (cV _).mono ?_;rintro e wr ⟨rfl,rfl⟩) | (at_builtin;refine wpList_push rfl _ _ 51 rfl Tryz.underlying51 w.heap.size O (.slice oo O.length ocap) rfl hrs (v:Int) (by rw [E3.out];rfl) hsz hb8 ?_;intro g gcap w4 hr4 hk4 hat4;have hs4:=hss.onto hrs hk4))
     have hM4:MetAt w4 w.heap.size (O ++ [(v:Int)]):=hMs.kept hk4 hne
     have hne4:Value.ownBlock (.slice (some ⟨g,0,none⟩) (O.length+1) gcap)≠some w.heap.size:=by
      simp only [Value.ownBlock,ne_eq,Option.some.injEq]
      rcases hat4 with e | e
      ·intro e'; exact hne (by rw [e,e'])
      ·have e3:=E3.out
       omega
     rw [← E1.out] at hr4 hM4
     go_roundw
     case rel=>first | exact ⟨k+1,by omega,by go_num,hr4,hM4,hne4,hs4⟩ | ((repeat apply Exists.intro);exact ⟨⟨k+1,by omega,by go_num,hr4,hM4,hne4,hs4⟩,rfl⟩)
     case measure=>simp [intOf];omega
  ·obtain rfl:k=t.length:=by omega
   rw [List.take_length] at hr
   go_wp2
   go_ret
   refine ⟨_,rfl,?_,hs⟩
   simpa using hr
def Lists (w:World) (lo:Option Addr) (ls:List (List Int)):Prop:=
 ls=[]∨∃ b off,lo=some ⟨b,off,none⟩∧b<w.heap.size∧∀ i (h:i<ls.length),∃ ao cap,w.cell? ⟨b,off+i,none⟩=some (.slice ao ls[i].length cap)∧IntsAt w ao ls[i]∧(ao=none→ls[i].length=0∧cap=0)
structure PlAt (s:Nat) (wr:World) (g n:Nat) (cs:List Value) (done:List (List Int)):Prop where
 row:wr.ownsRow s 78 1 (.slice (some ⟨g,0,none⟩) n n) n cs
 len:done.length≤n
 each:∀ j (h:j<done.length),∃ v,cs[j]? = some v∧Row s wr v done[j]∧v.ownBlock≠some g
 apart:∀ i j vi vj,i<done.length→j<done.length→i≠j→cs[i]? = some vi→cs[j]? = some vj→∀ k,vi.ownBlock=some k→vj.ownBlock≠some k
theorem wpList_more {w0:World} {ops:Array Oper} {rest:List Oper} {o:Oper} {a:Act} {Q:Exit→Act→World→Prop} (hgd:o.guard=none) (s x:Operand) (t:TypeId)
  (ho:o.op=.call { callee:=.builtin .append,args:=#[s,x],argTypes:=#[t,t] }) (ht:Tryz.prog.underlying t=some (.slice 3))
  (base:Nat) (xs:List Int) (v:Value) (hs:a.eval s=v) (hr:Row base w0 v xs) (ys:List Int) (ad:Addr) (m c:Nat) (hx:a.eval x=.slice (some ad) m c) (hm:m=ys.length) (hy:IntsAt w0 (some ad) ys) (hb:base≤w0.heap.size) (hsz:(xs.length+ys.length) * 8≤140737488355328)
  (h:∀ v' w', Row base w' v' (xs++ys)→Kept (fun k=>v.ownBlock=some k) w0 w' → wpList Tryz.prog ops Q rest (a.put o.dst v') w') :
  wpList Tryz.prog ops Q (o :: rest) a w0:=by
 subst hm
 obtain ⟨i,hi,hz0,hz1,hz2⟩:=info_parts info_intT
 refine wpList_append_own _ hgd s x t ho base 3 i (.int .i64 0) 1 8 ht hi hz0 hz1 hz2 rfl (by decide) v xs.length (iv xs) hs hr ad ys.length c (iv ys) hx (by rw [iv_length];omega) (fun j u hj=>?_) (iv_oneCell ys) (by unfold maxLen;omega) hsz hb ?_
 ·obtain ⟨ad', e,hc⟩:=hy.src (by have:=(List.getElem?_eq_some_iff.1 hj).1;omega)
  cases e
  exact hc j u hj
 ·intro v' w' hown hgrow _
  refine h v' w' ?_ (Kept.grown (Kept.refl _ w0) hgrow (fun _ e _=>e))
  unfold Row;rw [iv_append,List.length_append];exact hown
theorem row_empty (w:World) (base:Nat) (hb:base≤w.heap.size) {o:Obj} (ho:o=.cells #[] 3 (0,0)):Row base (w.alloc o) (.slice (some ⟨w.heap.size,0,none⟩) 0 0) []:=by
 subst ho
 exact ⟨rfl,.inr ⟨w.heap.size,0, #[],rfl,hb,heap_alloc_new w _,Nat.le_refl _,by unfold maxLen;omega,rfl,rfl⟩⟩
end Go.Proofs.YtflcpepjmonlpaaGreatDoor
namespace Go.Proofs.YtflcpepjmonlpaaGreatDoor
set_option maxRecDepth 100000
set_option linter.unusedVariables false
open Go.RowKit
attribute [local go_sem ↓] Go.wp_at_zero Go.wp_at_succ
def TabV (N:Nat) (w:World) (cs:Array Value) (σ:Tb):Prop:=cs.size=100∧∀ v,v<100→∃ ao cap,cs[v]? = some (.slice ao (σ v).length cap)∧IntsAt w ao (σ v)∧(σ v).length≤cap∧(σ v=[]→ao=none∧cap=0)∧∀ a,ao=some a→a.block<N
def TabAt (N:Nat) (w:World) (A:Nat) (σ:Tb):Prop:=∃ cs,w.heap[A]? = some (.cells cs 346 (0,0))∧TabV N w cs σ
theorem eqnil (w:World) (a:Option Addr) (n c n' c' : Nat):(binOp .eql 78 (.slice a n c) (.slice none n' c')).run Tryz.prog w=.ok (.bool a.isNone) w:=Lib.run_eql_slice_nil w _ _ a n c n' c' Tryz.underlying78
def Bnd (σ:Tb):Prop:=∀ v,(σ v).length≤2000
set_option maxHeartbeats 2000000 in
theorem clone_term {w:World} {ao:Option Addr} {cap:Nat} {xs:List Int} (hx:IntsAt w ao xs) (hn:0<xs.length) (hsz:xs.length≤2000) :
  Calls Tryz.prog 104 #[.slice ao xs.length cap] w fun e w' => ∃ v,e=.returned v∧Row w.heap.size w' v xs∧Same0 w w' := by
 obtain ⟨xb,off,rfl,hxb,hc⟩:=hx.get hn
 have k0:Same0 w (w.alloc (.cells #[] 3)):=(Kept.refl _ w).alloc _
 have r0:Row w.heap.size (w.alloc (.cells #[] 3)) (.slice (some ⟨w.heap.size,0,none⟩) 0 0) []:=row_empty w _ (Nat.le_refl _) rfl
 have cI:=hx.same k0
 have z0:=k0.size
 have hnil:=eqnil
 go_enter Tryz.func104,Tryz.ntmps104
 go_wp2_with (first | (at_builtin;refine wpList_more rfl _ _ 78 rfl Tryz.underlying78 w.heap.size [] _ rfl r0 xs _ _ _ rfl rfl cI z0 (by simp;omega) ?_;intro v' w4 hr4 hk4))
 go_ret
 exact ⟨_,rfl,by simpa using hr4,k0.onto r0 hk4⟩
structure PassAt (N:Nat) (w:World) (aB tB sB A b:Nat) (L:List Sym) (ao:Option Addr) (cap:Nat) (u:List Int) (k:Nat) (σ:Tb):Prop where
 a0:w.heap[aB]? = some (.cells #[.int .i64 (k:Int)] 3 (0,0))
 t0:w.heap[tB]? = some (.cells #[.slice ao u.length cap] 78 (0,0))
 s0:w.heap[sB]? = some (.cells #[.pointer (some ⟨b,0,none⟩)] 41 (0,0))
 tab:TabAt N w A σ
 ints:IntsAt w ao u
 ub:∀ a,ao=some a→a.block<N
 uc:u.length≤cap
 um:u.length≤2000
 sg:Sg N w b L
 ne:N≤aB∧N≤tB∧N≤sB∧N≤A∧aB≠tB∧aB≠sB∧aB≠A∧tB≠A∧sB≠A
structure WalkAt (Z:Array Value) (w wr:World) (b:Nat) (L:List Sym) (po:Option Addr) (p:List Int) (ao:Option Addr) (cap:Nat) (u:List Int) (i k:Nat) (σ:Tb):Prop where
 pass:PassAt w.heap.size wr (w.heap.size+1+1+1+1) (w.heap.size+1) w.heap.size (w.heap.size+1+1+1) b L ao cap u k σ
 res:wr.heap[w.heap.size+1+1]? = some (.cells Z 346 (0,0))
 pat:IntsAt wr po p
 mw:Proofs.YtflcpepjmonlpaaGreatDoor.mw L p u noT=Proofs.YtflcpepjmonlpaaGreatDoor.mw L (p.drop i) (u.drop k) σ
 even:Even L (p.drop i) (u.drop k)
 kle:k≤u.length
 bnd:Bnd σ
 kept:Kept (From w.heap.size) w wr
def bcells (l:List (Int × Value)):List Value:=l.flatMap (fun p=>[.int .i64 p.1,p.2])
structure BOwn (base:Nat) (w:World) (v:Value) (l:List (Int × Value)) (bs:List Bd):Prop where
 row:w.ownsRow base 324 2 v l.length (bcells l)
 len:l.length=bs.length
 each:∀ i (h:i<l.length) (h' : i<bs.length),l[i].1=bs[i].1∧Row base w l[i].2 bs[i].2∧∀ k,l[i].2.ownBlock=some k→v.ownBlock≠some k
 apart:∀ i j (hi:i<l.length) (hj:j<l.length),i≠j→∀ k,l[i].2.ownBlock=some k→l[j].2.ownBlock≠some k
def tabF (L:List Sym):List Bd→Tb→Except Int Tb
 | [],σ=>.ok σ
 | b :: r,σ=>if b.1<1∨99<b.1∨σ b.1.toNat≠[] then .error 50 else if checkE L b.2≠0 then .error (checkE L b.2) else tabF L r (updT σ b.1.toNat b.2)
structure TabW (Z:Array Value) (w wr:World) (L:List Sym) (bs:List Bd) (i:Nat) (σ:Tb):Prop where
 tab:TabAt w.heap.size wr (w.heap.size+1) σ
 res:wr.heap[w.heap.size]? = some (.cells Z 346 (0,0))
 eq:tabF L bs noT=tabF L (bs.drop i) σ
 bnd:Bnd σ
 kept:Same0 w wr
end Go.Proofs.YtflcpepjmonlpaaGreatDoor
namespace Go.Proofs.YtflcpepjmonlpaaGreatDoor
set_option linter.unusedVariables false
end Go.Proofs.YtflcpepjmonlpaaGreatDoor
namespace Go.Proofs.YtflcpepjmonlpaaGreatDoor
set_option maxRecDepth 100000
set_option linter.unusedVariables false
open Go.RowKit
attribute [local go_sem ↓] Go.wp_at_zero Go.wp_at_succ
end Go.Proofs.YtflcpepjmonlpaaGreatDoor
namespace Go.Proofs.YtflcpepjmonlpaaGreatDoor
set_option linter.unusedVariables false
structure Ren (f f' : Int→Int) (n:Int):Prop where
 back:f' (f n)=n
 neg:n<0→f n<0
 pos:0≤n→f n=n
end Go.Proofs.YtflcpepjmonlpaaGreatDoor
