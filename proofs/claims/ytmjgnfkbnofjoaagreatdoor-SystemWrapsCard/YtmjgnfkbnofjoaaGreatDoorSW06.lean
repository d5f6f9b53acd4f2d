import Derived.Test.YtmjgnfkbnofjoaaGreatDoorSW03
import Derived.Test.YtmjgnfkbnofjoaaGreatDoorSW04
import Derived.Laws.Tables
import Derived.Deep.LoopGhost
import Derived.Deep.CutRange
import Derived.BigRegion
import Derived.Test.YtmjgnfkbnofjoaaGreatDoorSW02
namespace Go.Proofs.YtmjgnfkbnofjoaaGreatDoor
set_option maxRecDepth 100000
set_option linter.unusedVariables false
open Go.RowKit
theorem zeros_joint:Tryz.zeroCells359 = #[.slice none 0 0,.slice none 0 0]++Array.replicate 199 (.int .i64 0) ++ #[.slice none 0 0,.slice none 0 0]:=by kernel_rfl
structure ZOk (Z:Array Value):Prop where
 size:Z.size=203
 var:∀ v,1≤v→v<199→Z[2+v]? = some (.int .i64 0)
theorem zok_joint:ZOk Tryz.zeroCells359:=by
 rw [zeros_joint]
 refine ⟨by simp,fun v h1 h2=>?_⟩
 rw [Array.getElem?_append_left (by simp;omega),Array.getElem?_append_right (by simp),Array.getElem?_eq_getElem (by simp;omega)]
 simp
def JZ (Z:Array Value) (l e s z:Value):Array Value:=(((Z.setIfInBounds 0 l).setIfInBounds 1 e).setIfInBounds 201 s).setIfInBounds 202 z
theorem JZ_size {Z:Array Value} (hZ:ZOk Z) (l e s z:Value):(JZ Z l e s z).size=203:=by simp [JZ,hZ.size]
theorem JZ_0 {Z:Array Value} (hZ:ZOk Z) (l e s z:Value):(JZ Z l e s z)[0]? = some l:=by
 have:=JZ_size hZ l e s z
 simp only [JZ,Array.size_setIfInBounds] at this
 simp only [JZ]
 rw [Array.getElem?_setIfInBounds,if_neg (by omega),Array.getElem?_setIfInBounds,if_neg (by omega),Array.getElem?_setIfInBounds,if_neg (by omega),Array.getElem?_setIfInBounds,if_pos rfl,if_pos (by omega)]
theorem JZ_1 {Z:Array Value} (hZ:ZOk Z) (l e s z:Value):(JZ Z l e s z)[1]? = some e:=by
 have:=JZ_size hZ l e s z
 simp only [JZ,Array.size_setIfInBounds] at this
 simp only [JZ]
 rw [Array.getElem?_setIfInBounds,if_neg (by omega),Array.getElem?_setIfInBounds,if_neg (by omega),Array.getElem?_setIfInBounds,if_pos rfl,if_pos (by simp;omega)]
theorem JZ_201 {Z:Array Value} (hZ:ZOk Z) (l e s z:Value):(JZ Z l e s z)[201]? = some s:=by
 have:=JZ_size hZ l e s z
 simp only [JZ,Array.size_setIfInBounds] at this
 simp only [JZ]
 rw [Array.getElem?_setIfInBounds,if_neg (by omega),Array.getElem?_setIfInBounds,if_pos rfl,if_pos (by simp;omega)]
theorem JZ_202 {Z:Array Value} (hZ:ZOk Z) (l e s z:Value):(JZ Z l e s z)[202]? = some z:=by
 have:=JZ_size hZ l e s z
 simp only [JZ,Array.size_setIfInBounds] at this
 simp only [JZ]
 rw [Array.getElem?_setIfInBounds,if_pos rfl,if_pos (by simp;omega)]
theorem JZ_v {Z:Array Value} (hZ:ZOk Z) (l e s z:Value) {v:Nat} (h1:1≤v) (h2:v<199):(JZ Z l e s z)[2+v]? = some (.int .i64 0):=by
 simp only [JZ]
 rw [Array.getElem?_setIfInBounds,if_neg (by omega),Array.getElem?_setIfInBounds,if_neg (by omega),Array.getElem?_setIfInBounds,if_neg (by omega),Array.getElem?_setIfInBounds,if_neg (by omega)]
 exact hZ.var v h1 h2
theorem info_intS:(Tryz.prog.info? 3).map (fun i=>(i.zero,i.size,i.bytes))=some (some (.int .i64 0),1,8):=by kernel_rfl
theorem umade_zero (n i:Nat) (h:i<n):(madeCells #[Value.int .i64 0] n)[i]? = some (.int .i64 0):=by
 simp [madeCells,h,Nat.mod_one]
theorem at_ar {n b:Nat} {w:World} {L:List Sym} (h:Sg n w b L) (x:Int):Calls Tryz.prog 128 #[.pointer (some ⟨b,0,none⟩),.int .i64 x] w fun e w' => ∃ s d c,e=.returned (.tuple #[.agg #[.string s,.int .i64 ((arN L x:Nat):Int),.bool d],.int .i64 c])∧Same0 w w' := by
 obtain ⟨⟨sv,mr,h1,_⟩,ha⟩:=h
 by_cases hx:x<0∨(L.length:Int)≤x
 ·refine (at_no h1 x hx).mono ?_
  rintro e w' ⟨rfl,hk⟩
  exact ⟨_,_,_,by rw [ar_no hx];rfl,hk⟩
 ·obtain ⟨i,rfl⟩:∃ i:Nat,x=(i:Int):=⟨x.toNat,by omega⟩
  have hi:i<L.length:=by omega
  refine (at_yes h1 i hi).mono ?_
  rintro e w' ⟨rfl,hk⟩
  exact ⟨_,_,_,by rw [ar_of ha hi],hk⟩
structure JJ (w0:World) (B:JB) (w:World) (xs:List Int) (M:Nat) (nx:Int→Int) (en sa:Nat→Int):Prop where
 head:Head w B xs.length M nx
 row:w.ownsRow w0.heap.size 3 1 (.slice (some ⟨B.lb,0,none⟩) xs.length M) xs.length (iv xs)
 cap:B.lcap=M
 ends:Nums w B.eb M en
 same:Nums w B.sb M sa
 sizes:Nums w B.zb M (fun _=>0)
 ap:B.Apart
 ap2:B.eb≠B.lb
 new:∀ k,B.Foot k→w0.heap.size≤k
 kept:Same0 w0 w
theorem JJ.same0 {w0:World} {B:JB} {w w' : World} {xs:List Int} {M:Nat} {nx:Int→Int} {en sa:Nat→Int} (h:JJ w0 B w xs M nx en sa) (hk:Same0 w w'):JJ w0 B w' xs M nx en sa:=
 ⟨h.head.kept hk (fun f=>f),hk.row h.row (fun _ _ f=>f),h.cap,h.ends.kept hk (fun f=>f),h.same.kept hk (fun f=>f),h.sizes.kept hk (fun f=>f),h.ap,h.ap2,h.new,h.kept.trans' hk⟩
theorem Head.set0 {w:World} {B:JB} {N M:Nat} {nx:Int→Int} (h:Head w B N M nx) (N' : Nat):Head (w.setCell ⟨B.jb,0,none⟩ (.slice (some ⟨B.lb,0,none⟩) N' B.lcap)) B N' M nx:=by
 obtain ⟨cs,g1,g2,g3,g4,g5,g6,g7⟩:=h
 refine ⟨_,setAt g1 _ _,by simpa using g2,?_,?_,?_,?_,?_⟩
 ·rw [Array.getElem?_setIfInBounds,if_pos rfl,if_pos (by omega)]
 ·rw [Array.getElem?_setIfInBounds,if_neg (by omega)];exact g4
 ·intro k hk1 hk2
  rw [Array.getElem?_setIfInBounds,if_neg (by omega)];exact g5 k hk1 hk2
 ·rw [Array.getElem?_setIfInBounds,if_neg (by omega)];exact g6
 ·rw [Array.getElem?_setIfInBounds,if_neg (by omega)];exact g7
theorem Head.setNo {w:World} {B:JB} {N M:Nat} {nx:Int→Int} (h:Head w B N M nx) (x:Value):Head (w.setCell ⟨B.jb,2,none⟩ x) B N M nx:=by
 obtain ⟨cs,g1,g2,g3,g4,g5,g6,g7⟩:=h
 refine ⟨_,setAt g1 _ _,by simpa using g2,?_,?_,?_,?_,?_⟩
 ·rw [Array.getElem?_setIfInBounds,if_neg (by omega)];exact g3
 ·rw [Array.getElem?_setIfInBounds,if_neg (by omega)];exact g4
 ·intro k hk1 hk2
  rw [Array.getElem?_setIfInBounds,if_neg (by omega)];exact g5 k hk1 hk2
 ·rw [Array.getElem?_setIfInBounds,if_neg (by omega)];exact g6
 ·rw [Array.getElem?_setIfInBounds,if_neg (by omega)];exact g7
theorem head_new {Z:Array Value} (hZ:ZOk Z) (w:World) (B:JB) (M:Nat) (hj:B.jb=w.heap.size) (hc:B.lcap=M):Head (w.alloc (.cells (JZ Z (.slice (some ⟨B.lb,0,none⟩) 0 M) (.slice (some ⟨B.eb,0,none⟩) M M) (.slice (some ⟨B.sb,0,none⟩) M M) (.slice (some ⟨B.zb,0,none⟩) M M)) 359)) B 0 M (fun _=>0):=by
 refine ⟨_,by rw [hj];exact heap_alloc_new _ _,JZ_size hZ _ _ _ _,?_,?_,?_,?_,?_⟩
 ·rw [hc];exact JZ_0 hZ _ _ _ _
 ·exact JZ_1 hZ _ _ _ _
 ·exact fun v h1 h2=>JZ_v hZ _ _ _ _ h1 h2
 ·exact JZ_201 hZ _ _ _ _
 ·exact JZ_202 hZ _ _ _ _
theorem JJ.grow {w0:World} {B:JB} {w w1:World} {xs ys:List Int} {M:Nat} {nx:Int→Int} {en sa:Nat→Int} (h:JJ w0 B w xs M nx en sa) (hk:Kept (fun k=>k=B.lb) w w1) (hr:w1.ownsRow w0.heap.size 3 1 (.slice (some ⟨B.lb,0,none⟩) (xs++ys).length M) (xs++ys).length (iv (xs++ys))):JJ w0 B (w1.setCell ⟨B.jb,0,none⟩ (.slice (some ⟨B.lb,0,none⟩) (xs++ys).length M)) (xs++ys) M nx en sa:=by
 have hk2:Kept (fun k=>k=B.jb) w1 (w1.setCell ⟨B.jb,0,none⟩ (.slice (some ⟨B.lb,0,none⟩) (xs++ys).length M)):=Kept.setCell (S:=fun k=>k=B.jb) (p:=⟨B.jb,0,none⟩) (Kept.refl _ _) (fun _=>rfl) _
 have ap:=h.ap
 have hh:=(h.head.kept hk ap.a1).set0 (xs++ys).length
 rw [h.cap] at hh
 refine ⟨hh,hk2.row hr (fun k e f=>by simp [Value.ownBlock] at e;exact ap.a1 (by omega)),h.cap,(h.ends.kept hk h.ap2).kept hk2 (fun e=>ap.a2 e.symm),(h.same.kept hk ap.a5).kept hk2 (fun e=>ap.a3 e.symm),(h.sizes.kept hk ap.a8).kept hk2 (fun e=>ap.a4 e.symm),ap,h.ap2,h.new,?_⟩
 have k1:Same0 w0 w1:=h.kept.trans hk (fun i hi e=>by have:=h.new B.lb (.inr (.inl rfl));omega)
 exact k1.trans hk2 (fun i hi e=>by have:=h.new B.jb (.inl rfl);omega)
theorem JJ.stand {w0:World} {B:JB} {w:World} {xs:List Int} {M:Nat} {nx:Int→Int} {en sa:Nat→Int} (h:JJ w0 B w xs M nx en sa) {v:Nat} (hv:v<199) (x:Int):JJ w0 B (w.setCell ⟨B.jb,2+v,none⟩ (.int .i64 x)) xs M (fun y=>if y = -(v:Int) then x else nx y) en sa:=by
 have hk2:Kept (fun k=>k=B.jb) w (w.setCell ⟨B.jb,2+v,none⟩ (.int .i64 x)):=Kept.setCell (S:=fun k=>k=B.jb) (p:=⟨B.jb,2+v,none⟩) (Kept.refl _ _) (fun _=>rfl) _
 have ap:=h.ap
 have hh:Head (w.setCell ⟨B.jb,2+v,none⟩ (.int .i64 x)) B xs.length M (fun y=>if y = -(v:Int) then x else nx y):=by
  by_cases h0:v=0
  ·subst h0
   exact (h.head.setNo _).congr (fun u h1 h2=>by rw [if_neg (by omega)])
  ·exact h.head.set (by omega) hv x
 exact ⟨hh,hk2.row h.row (fun k e f=>by simp [Value.ownBlock] at e;exact ap.a1 (by omega)),h.cap,h.ends.kept hk2 (fun e=>ap.a2 e.symm),h.same.kept hk2 (fun e=>ap.a3 e.symm),h.sizes.kept hk2 (fun e=>ap.a4 e.symm),ap,h.ap2,h.new,h.kept.trans hk2 (fun i hi e=>by have:=h.new B.jb (.inl rfl);omega)⟩
theorem JJ.setSame {w0:World} {B:JB} {w:World} {xs:List Int} {M:Nat} {nx:Int→Int} {en sa:Nat→Int} (h:JJ w0 B w xs M nx en sa) (i:Nat) (x:Int):JJ w0 B (w.setCell ⟨B.sb,i,none⟩ (.int .i64 x)) xs M nx en (fun k=>if k=i then x else sa k):=by
 have hk2:Kept (fun k=>k=B.sb) w (w.setCell ⟨B.sb,i,none⟩ (.int .i64 x)):=Kept.setCell (S:=fun k=>k=B.sb) (p:=⟨B.sb,i,none⟩) (Kept.refl _ _) (fun _=>rfl) _
 have ap:=h.ap
 exact ⟨h.head.kept hk2 ap.a3,hk2.row h.row (fun k e f=>by simp [Value.ownBlock] at e;exact ap.a5 (by omega)),h.cap,h.ends.kept hk2 (fun e=>ap.a6 e.symm),h.same.set i x,h.sizes.kept hk2 (fun e=>ap.a7 e.symm),ap,h.ap2,h.new,h.kept.trans hk2 (fun i hi e=>by have:=h.new B.sb (.inr (.inr (.inr (.inl rfl))));omega)⟩
theorem JJ.setEnd {w0:World} {B:JB} {w:World} {xs:List Int} {M:Nat} {nx:Int→Int} {en sa:Nat→Int} (h:JJ w0 B w xs M nx en sa) (i:Nat) (x:Int):JJ w0 B (w.setCell ⟨B.eb,i,none⟩ (.int .i64 x)) xs M nx (fun k=>if k=i then x else en k) sa:=by
 have hk2:Kept (fun k=>k=B.eb) w (w.setCell ⟨B.eb,i,none⟩ (.int .i64 x)):=Kept.setCell (S:=fun k=>k=B.eb) (p:=⟨B.eb,i,none⟩) (Kept.refl _ _) (fun _=>rfl) _
 have ap:=h.ap
 exact ⟨h.head.kept hk2 ap.a2,hk2.row h.row (fun k e f=>by simp [Value.ownBlock] at e;exact h.ap2 (by omega)),h.cap,h.ends.set i x,h.same.kept hk2 ap.a6,h.sizes.kept hk2 ap.a9,ap,h.ap2,h.new,h.kept.trans hk2 (fun i hi e=>by have:=h.new B.eb (.inr (.inr (.inl rfl)));omega)⟩
theorem JJ.congr {w0:World} {B:JB} {w:World} {xs:List Int} {M:Nat} {nx ny:Int→Int} {en sa en' sa' : Nat→Int} (h:JJ w0 B w xs M nx en sa) (e1:∀ v:Nat,1≤v→v<199→nx (-(v:Int))=ny (-(v:Int))) (e2:∀ i,i<M→en i=en' i) (e3:∀ i,i<M→sa i=sa' i):JJ w0 B w xs M ny en' sa' :=
 ⟨h.head.congr e1,h.row,h.cap,h.ends.congr e2,h.same.congr e3,h.sizes,h.ap,h.ap2,h.new,h.kept⟩
theorem nums_new (w:World) (n:Nat):Nums (w.alloc (.cells (madeCells #[.int .i64 0] n) 3)) w.heap.size n (fun _=>0):=
 ⟨_,_,heap_alloc_new _ _,by rw [size_madeCells];exact Nat.le_refl _,fun i hi=>umade_zero n i hi⟩
theorem jj_new {Z:Array Value} (hZ:ZOk Z) {w0:World} (M h p1 p2 p3 p4:Nat) (hh:h=w0.heap.size) (hM:M≤maxLen) (q1:h≤p1∧p1≤h+3) (q2:h≤p2∧p2≤h+3) (q3:h≤p3∧p3≤h+3) (q4:h≤p4∧p4≤h+3) (d:p1≠p2∧p1≠p3∧p1≠p4∧p2≠p3∧p2≠p4∧p3≠p4) (n:Nat) :
  JJ w0 ⟨h+4,p1,p2,p3,p4,M⟩ ((((((w0.alloc (.cells (madeCells #[.int .i64 0] M) 3)).alloc (.cells (madeCells #[.int .i64 0] M) 3)).alloc (.cells (madeCells #[.int .i64 0] M) 3)).alloc (.cells (madeCells #[.int .i64 0] M) 3)).alloc (.cells (JZ Z (.slice (some ⟨p1,0,none⟩) 0 M) (.slice (some ⟨p2,0,none⟩) M M) (.slice (some ⟨p3,0,none⟩) M M) (.slice (some ⟨p4,0,none⟩) M M)) 359)).drewN n) [] M (fun _=>0) (fun _=>0) (fun _=>0):=by
 subst hh
 obtain ⟨w1,e1⟩:∃ w1,w1=w0.alloc (.cells (madeCells #[.int .i64 0] M) 3):=⟨_,rfl⟩
 obtain ⟨w2,e2⟩:∃ w2,w2=w1.alloc (.cells (madeCells #[.int .i64 0] M) 3):=⟨_,rfl⟩
 obtain ⟨w3,e3⟩:∃ w3,w3=w2.alloc (.cells (madeCells #[.int .i64 0] M) 3):=⟨_,rfl⟩
 obtain ⟨w4,e4⟩:∃ w4,w4=w3.alloc (.cells (madeCells #[.int .i64 0] M) 3):=⟨_,rfl⟩
 rw [← e1,← e2,← e3,← e4]
 have z1:w1.heap.size=w0.heap.size+1:=by rw [e1,World.size_alloc]
 have z2:w2.heap.size=w0.heap.size+2:=by rw [e2,World.size_alloc,z1]
 have z3:w3.heap.size=w0.heap.size+3:=by rw [e3,World.size_alloc,z2]
 have z4:w4.heap.size=w0.heap.size+4:=by rw [e4,World.size_alloc,z3]
 have k1:Same0 w0 w1:=by rw [e1];exact (Kept.refl _ w0).alloc _
 have k2:Same0 w1 w2:=by rw [e2];exact (Kept.refl _ w1).alloc _
 have k3:Same0 w2 w3:=by rw [e3];exact (Kept.refl _ w2).alloc _
 have k4:Same0 w3 w4:=by rw [e4];exact (Kept.refl _ w3).alloc _
 have b1:w4.heap[w0.heap.size]? = some (.cells (madeCells #[.int .i64 0] M) 3 (0,0)):=((k2.trans' k3).trans' k4).at0 (by rw [e1];exact heap_alloc_new _ _)
 have b2:w4.heap[w0.heap.size+1]? = some (.cells (madeCells #[.int .i64 0] M) 3 (0,0)):=(k3.trans' k4).at0 (by rw [← z1,e2];exact heap_alloc_new _ _)
 have b3:w4.heap[w0.heap.size+2]? = some (.cells (madeCells #[.int .i64 0] M) 3 (0,0)):=k4.at0 (by rw [← z2,e3];exact heap_alloc_new _ _)
 have b4:w4.heap[w0.heap.size+3]? = some (.cells (madeCells #[.int .i64 0] M) 3 (0,0)):=by rw [← z3,e4];exact heap_alloc_new _ _
 have ball:∀ p,w0.heap.size≤p→p≤w0.heap.size+3→w4.heap[p]? = some (.cells (madeCells #[.int .i64 0] M) 3 (0,0)):=by
  intro p h1 h2
  rcases (show p=w0.heap.size∨p=w0.heap.size+1∨p=w0.heap.size+2∨p=w0.heap.size+3 by omega) with e | e | e | e <;> rw [e] <;> assumption
 have hd:=head_new hZ w4 ⟨w0.heap.size+4,p1,p2,p3,p4,M⟩ M z4.symm rfl
 obtain ⟨w5,e5⟩:∃ w5,w5=w4.alloc (.cells (JZ Z (.slice (some ⟨p1,0,none⟩) 0 M) (.slice (some ⟨p2,0,none⟩) M M) (.slice (some ⟨p3,0,none⟩) M M) (.slice (some ⟨p4,0,none⟩) M M)) 359):=⟨_,rfl⟩
 simp only at hd
 rw [← e5] at hd ⊢
 have k5:Same0 w4 w5:=by rw [e5];exact (Kept.refl _ w4).alloc _
 have K:Same0 w0 w5:=(((k1.trans' k2).trans' k3).trans' k4).trans' k5
 have ball5:∀ p,w0.heap.size≤p→p≤w0.heap.size+3→Nums w5 p M (fun _=>0):=fun p h1 h2=>⟨_,_,k5.at0 (ball p h1 h2),by rw [size_madeCells];exact Nat.le_refl _,fun i hi=>umade_zero M i hi⟩
 have J5:JJ w0 ⟨w0.heap.size+4,p1,p2,p3,p4,M⟩ w5 [] M (fun _=>0) (fun _=>0) (fun _=>0):=by
  refine ⟨hd,⟨rfl,.inr ⟨p1,M,_,rfl,q1.1,k5.at0 (ball p1 q1.1 q1.2),Nat.zero_le _,hM,by rw [size_madeCells];omega,rfl⟩⟩,rfl,ball5 p2 q2.1 q2.2,ball5 p3 q3.1 q3.2,ball5 p4 q4.1 q4.2,⟨?_,?_,?_,?_,?_,?_,?_,?_,?_⟩,?_,?_,K⟩
  all_goals try (simp only;omega)
  intro k hk
  simp only [JB.Foot] at hk
  omega
 exact J5.same0 ((Kept.refl _ w5).drewN n)
end Go.Proofs.YtmjgnfkbnofjoaaGreatDoor
namespace Go.Proofs.YtmjgnfkbnofjoaaGreatDoor
set_option maxRecDepth 100000
set_option linter.unusedVariables false
open Go.RowKit
attribute [local go_sem ↓] Go.wp_at_zero Go.wp_at_succ
def JMade (w:World) (L:List Sym) (J:List Int) (e:Ending) (w' : World):Prop:=∃ B,e=.returned (.pointer (some ⟨B.jb,0,none⟩))∧JJ w B w' J J.length (fun x=>x) (fun i=>(endN L J i:Int)) (fun i=>ld0 J i)
theorem past_ge {L:List Sym} {t:List Int} {k p q i:Nat} (h:Forest L t k p q) (hi:i≤k):p≤past L t i p:=by
 cases i with
 | zero=>exact Nat.le_refl _
 | succ i=>
  have h1:=past_mono h (i:=0) (j:=i+1) (by omega) hi
  cases k with
  | zero=>omega
  | succ k=>
   have:=h.succ.2.1
   simp only [past] at h1
   exact Nat.le_trans (Nat.le_of_lt this) h1
set_option maxHeartbeats 8000000 in
theorem ujoin_any {b:Nat} {w:World} {L:List Sym} (h:Sg w.heap.size w b L) {xo yo:Option Addr} {xc yc:Nat} {x y:List Int} (hx:IntsAt w xo x) (hy:IntsAt w yo y) (tx:IsT L x) (ty:IsT L y) (hxl:x.length≤2000) (hyl:y.length≤2000) (hyv:∀ z∈y, -99≤z) {ap:Nat} (hap:ap≤99) :
  Calls Tryz.prog 235 #[.pointer (some ⟨b,0,none⟩),.slice xo x.length xc,.slice yo y.length yc,.int .i64 (ap:Int)] w (JMade w L (jl x y ap)):=by
 obtain ⟨i0,hi0,hz0,hz1,hz2⟩:=info_parts info_intS
 obtain ⟨n,hn⟩:∃ n,x.length+y.length=n:=⟨_,rfl⟩
 have hm0:∀ w:World,(Instr.makeSlice 74 (.int .i64 0) (.int .i64 (n:Int))).run Tryz.prog w=.ok (.slice (some ⟨w.heap.size,0,none⟩) 0 n) (w.alloc (.cells (madeCells #[.int .i64 0] n) 3)):=fun w=>by
  have:=run_make w 74 3 i0 _ Tryz.underlying74 hi0 hz0 .i64 .i64 0 (n:Int) (by omega) (by omega) (by rw [hz2];omega) (by omega)
  simpa [hz1,Value.cells] using this
 have hm1:∀ w:World,(Instr.makeSlice 51 (.int .i64 (n:Int)) (.int .i64 (n:Int))).run Tryz.prog w=.ok (.slice (some ⟨w.heap.size,0,none⟩) n n) (w.alloc (.cells (madeCells #[.int .i64 0] n) 3)):=fun w=>by
  have:=run_make w 51 3 i0 _ Tryz.underlying51 hi0 hz0 .i64 .i64 (n:Int) (n:Int) (by omega) (by omega) (by rw [hz2];omega) (by omega)
  simpa [hz1,Value.cells] using this
 have hn1:(x.length:Int)+(y.length:Int)=(n:Int):=by omega
 have hnM:n≤maxLen:=by unfold maxLen;omega
 have hxi:(x.length:Int)≤2000:=by omega
 have hyi:(y.length:Int)≤2000:=by omega
 have HX:Hid (x.length+y.length=n∧IsT L x∧IsT L y):=⟨hn,tx,ty⟩
 clear hn tx ty
 obtain ⟨Z,hz⟩:∃ Z,Tryz.zeroCells359=Z:=⟨_,rfl⟩
 have hZ:ZOk Z:=hz ▸ zok_joint
 have hzs:Z.size=203:=hZ.size
 have hzn:¬ Z = #[]:=fun e=>by rw [e] at hzs;simp at hzs
 go_enter Tryz.func235,Tryz.ntmps235
 go_upto_region 2 with fail
 go_cut [10] from 23 to 32 (fun s10 wc=>∃ B,s10=.pointer (some ⟨B.jb,0,none⟩)∧JJ w B wc [] n (fun _=>0) (fun _=>0) (fun _=>0))
 case first=>
  clear h hx hy hyv HX
  go_region
  all_goals
   go_wp2_with fail
   go_meet
   refine ⟨_,?_,jj_new hZ n w.heap.size _ _ _ _ rfl hnM (by omega) (by omega) (by omega) (by omega) (by omega) 1⟩
   rfl
 case rest=>
  obtain ⟨B,rfl,hJ⟩:=hcut
  clear hm0 hm1 hz hZ hzs hzn
  have hw:=hJ.row
  obtain ⟨c0, -, -, -,c4⟩:=hJ.head.cells
  rw [hJ.cap] at c0
  have f0:wc.frozen? ⟨B.jb,0,none⟩=false:=by obtain ⟨cs,g1, -⟩:=hJ.head;exact frozenAt g1 _
  obtain ⟨bx,ox,rfl, -⟩:=(hx.same hJ.kept).get (i:=0) (isT_pos HX.out.2.1)
  have hcx:Hid (∀ j u,(iv x)[j]? = some u→wc.cell? ((⟨bx,ox,none⟩:Addr).add j)=some u):=by
   intro j u hu
   have hj:j<x.length:=by
    have:=(List.getElem?_eq_some_iff.1 hu).1
    rwa [iv_length] at this
   obtain ⟨b', off', e1,_,e3⟩:=(hx.same hJ.kept).get (i:=j) hj
   simp only [Option.some.injEq,Addr.mk.injEq,and_true] at e1
   obtain ⟨rfl,rfl⟩:=e1
   rw [iv_get hj] at hu
   cases hu
   have hadd:(⟨bx,ox,none⟩:Addr).add j=⟨bx,ox+j,none⟩:=by unfold Addr.add;split <;> simp_all
   rw [hadd];exact e3
  have hJ1:Hid (∀ w1,w1.ownsRow w.heap.size 3 1 (.slice (some ⟨B.lb,0,none⟩) (0+x.length) n) (0+x.length) ([]++iv x)→wc.grownBy w1 (some B.lb)→JJ w B (w1.setCell ⟨B.jb,0,none⟩ (.slice (some ⟨B.lb,0,none⟩) x.length n)) x n (fun _=>0) (fun _=>0) (fun _=>0)∧w1.cell? ⟨B.jb,0,none⟩=some (.slice (some ⟨B.lb,0,none⟩) 0 n)∧w1.frozen? ⟨B.jb,0,none⟩=false):=by
   intro w1 h1 h2
   have kg:Kept (fun k=>k=B.lb) wc w1:=Kept.grown (Kept.refl _ wc) h2 (fun k e _=>by simpa using e.symm)
   have:=hJ.grow (ys:=x) kg (by simpa using h1)
   have hh:=hJ.head.kept kg hJ.ap.a1
   have h0:=hh.cells.1
   rw [hJ.cap] at h0
   refine ⟨by simpa using this,h0,?_⟩
   obtain ⟨cs,g1, -⟩:=hh;exact frozenAt g1 _
  have hfit:0+x.length≤n:=by have:=HX.out.1;omega
  clear hJ
  go_upto_region 4 with (first | (at_builtin;refine wpList_append_fits _ rfl _ _ 74 rfl w.heap.size 3 i0 1 Tryz.underlying74 hi0 hz1 B.lb 0 n [] rfl hw ⟨bx,ox,none⟩ x.length xc (iv x) rfl (by rw [iv_length];omega) hcx.out (fun u hu=>by simp [iv] at hu;obtain ⟨z,_,rfl⟩:=hu;rfl) hfit ?_;intro w1 hown hgrow;obtain ⟨hJ2,k0,k1⟩:=hJ1.out w1 hown hgrow))
  obtain ⟨w2,hw2⟩:∃ w2,w1.setCell ⟨B.jb,0,none⟩ (.slice (some ⟨B.lb,0,none⟩) x.length n)=w2:=⟨_,rfl⟩
  rw [hw2] at hJ2 ⊢
  clear hw2 hJ1 hcx hown hgrow k0 k1 c0 f0 c4 hw hfit hx
  go_wp2_with fail
  go_loopw [44] (fun s44 wr=>∃ k:Nat,s44=.int .i64 (k:Int)∧k≤y.length∧JJ w B wr (x++(y.take k).map (shF ap)) n (fun _=>0) (fun _=>0) (fun _=>0)) (fun s44 _=>y.length-(intOf s44).toNat)
  case atStart=>exact ⟨0,rfl,by omega,by simpa using hJ2⟩
  case round=>
   clear hJ2
   obtain ⟨k,rfl,hk,hJ2⟩:=hrel
   by_cases hkl:k<y.length
   ·obtain ⟨b', off', rfl,hb1,hb2⟩:=(hy.same hJ2.kept).get (i:=k) hkl
    have k1:(0:Int)≤(k:Int):=by omega
    have k2:(k:Int)<(y.length:Int):=by omega
    obtain ⟨z,hz⟩:∃ z,y[k]=z:=⟨_,rfl⟩
    have hzv : -99≤z:=by rw [← hz];exact hyv _ (List.getElem_mem _)
    rw [hz] at hb2
    have hapi:(ap:Int)≤99:=by omega
    have hap0:(0:Int)≤(ap:Int):=by omega
    have htk:(y.take (k+1)).map (shF ap)=(y.take k).map (shF ap) ++ [shF ap z]:=by
     rw [List.take_add_one,List.getElem?_eq_getElem hkl,hz];simp
    have hJ3:Hid (∀ w3,w3.ownsRow w.heap.size 3 1 (.slice (some ⟨B.lb,0,none⟩) ((x++(y.take k).map (shF ap)).length+1) n) ((x++(y.take k).map (shF ap)).length+1) (iv (x++(y.take k).map (shF ap)) ++ [.int .i64 (shF ap z)])→(wr.alloc (.cells #[.int .i64 (shF ap z)] 3)).grownBy w3 (some B.lb)→JJ w B (w3.setCell ⟨B.jb,0,none⟩ (.slice (some ⟨B.lb,0,none⟩) ((x++(y.take k).map (shF ap)).length+1) n)) (x++(y.take (k+1)).map (shF ap)) n (fun _=>0) (fun _=>0) (fun _=>0)∧w3.cell? ⟨B.jb,0,none⟩=some (.slice (some ⟨B.lb,0,none⟩) (x++(y.take k).map (shF ap)).length n)∧w3.frozen? ⟨B.jb,0,none⟩=false):=by
     intro w3 h1 h2
     have kg:Kept (fun k=>k=B.lb) wr w3:=Kept.grown (Kept.alloc (Kept.refl _ wr) _) h2 (fun k e _=>by simpa using e.symm)
     have hh:=hJ2.head.kept kg hJ2.ap.a1
     have h0:=hh.cells.1
     rw [hJ2.cap] at h0
     have e1:x++(y.take (k+1)).map (shF ap)=(x++(y.take k).map (shF ap)) ++ [shF ap z]:=by rw [htk,List.append_assoc]
     have e2:(x++(y.take (k+1)).map (shF ap)).length=(x++(y.take k).map (shF ap)).length+1:=by rw [e1,List.length_append];rfl
     have:=hJ2.grow (ys:=[shF ap z]) kg (by rw [← e1,e2,e1,iv_append];exact h1)
     rw [← e1,e2] at this
     refine ⟨this,h0,?_⟩
     obtain ⟨cs,g1, -⟩:=hh;exact frozenAt g1 _
    have hw:=hJ2.row
    obtain ⟨c0, -, -, -,c4⟩:=hJ2.head.cells
    rw [hJ2.cap] at c0
    have f0:wr.frozen? ⟨B.jb,0,none⟩=false:=by obtain ⟨cs,g1, -⟩:=hJ2.head;exact frozenAt g1 _
    obtain ⟨l,hl⟩:∃ l,(x++(y.take k).map (shF ap)).length=l:=⟨_,rfl⟩
    have hl2:l=x.length+k:=by rw [← hl];simp;omega
    have hfit:l+1≤n:=by have:=HX.out.1;omega
    have hli:(l:Int)<5000:=by omega
    rw [hl] at c0 hw hJ3
    clear hJ2 hz htk hyv hl hl2
    by_cases hzn:z<0
    ·have hs:shF ap z=z-(ap:Int):=by unfold shF;rw [if_pos hzn]
     rw [hs] at hJ3
     go_wp2_with (first | (at_builtin;refine wpList_append_fits _ rfl _ _ 74 rfl w.heap.size 3 i0 1 Tryz.underlying74 hi0 hz1 B.lb l n (iv (x++(y.take k).map (shF ap))) rfl (hw.alloc _) ⟨wr.heap.size,0,none⟩ 1 1 [.int .i64 (z-(ap:Int))] rfl rfl (World.news_of_block (cs:=#[.int .i64 (z-(ap:Int))]) (t:=3) (fr:=(0,0)) (heap_alloc_new wr _)) (by simp [Value.oneCell']) hfit ?_;intro w3 hown hgrow;obtain ⟨hJ4,q0,q1⟩:=hJ3.out w3 hown hgrow))
     go_roundw
     case rel=>exact ⟨k+1,by go_num,by omega,hJ4⟩
     case measure=>simp [intOf];omega
    ·have hs:shF ap z=z:=by unfold shF;rw [if_neg hzn]
     rw [hs] at hJ3
     go_wp2_with (first | (at_builtin;refine wpList_append_fits _ rfl _ _ 74 rfl w.heap.size 3 i0 1 Tryz.underlying74 hi0 hz1 B.lb l n (iv (x++(y.take k).map (shF ap))) rfl (hw.alloc _) ⟨wr.heap.size,0,none⟩ 1 1 [.int .i64 z] rfl rfl (World.news_of_block (cs:=#[.int .i64 z]) (t:=3) (fr:=(0,0)) (heap_alloc_new wr _)) (by simp [Value.oneCell']) hfit ?_;intro w3 hown hgrow;obtain ⟨hJ4,q0,q1⟩:=hJ3.out w3 hown hgrow))
     go_roundw
     case rel=>exact ⟨k+1,by go_num,by omega,hJ4⟩
     case measure=>simp [intOf];omega
   ·obtain rfl:k=y.length:=by omega
    have k2:¬ (y.length:Int)<(y.length:Int):=by omega
    rw [List.take_length] at hJ2
    clear hyv hkl
    go_wp2_with fail
    go_loopw [64] (fun s64 wr=>∃ k:Nat,s64=.int .i64 (k:Int)∧k≤199∧JJ w B wr (x++y.map (shF ap)) n (fun z=>if -(k:Int)<z then z else 0) (fun _=>0) (fun _=>0)) (fun s64 _=>199-(intOf s64).toNat)
    case atStart=>exact ⟨0,rfl,by omega,hJ2.congr (fun v h1 h2=>by rw [if_neg (by omega)]) (fun _ _=>rfl) (fun _ _=>rfl)⟩
    case round=>
     clear hJ2
     obtain ⟨k,rfl,hk,hJ2⟩:=hrel
     by_cases hkl:k<199
     ·have k1:(0:Int)≤(k:Int):=by omega
      have k2:(k:Int)<199:=by omega
      have hJ3:=hJ2.stand hkl (-(k:Int))
      have hJ4:JJ w B (wr.setCell ⟨B.jb,2+k,none⟩ (.int .i64 (-(k:Int)))) (x++y.map (shF ap)) n (fun z=>if -((k+1:Nat):Int)<z then z else 0) (fun _=>0) (fun _=>0):=by
       refine hJ3.congr (fun v h1 h2=>?_) (fun _ _=>rfl) (fun _ _=>rfl)
       by_cases e:v=k
       ·subst e;rw [if_pos rfl,if_pos (by omega)]
       ·rw [if_neg (by omega)]
        by_cases e2:v<k
        ·rw [if_pos (by omega),if_pos (by omega)]
        ·rw [if_neg (by omega),if_neg (by omega)]
      obtain ⟨q1,q2⟩:(∃ u,wr.cell? ⟨B.jb,2+k,none⟩=some u)∧wr.frozen? ⟨B.jb,2+k,none⟩=false:=by
       obtain ⟨cs,g1,g2, -⟩:=hJ2.head
       exact ⟨⟨cs[2+k]'(by omega),by rw [cellAt g1];exact Array.getElem?_eq_getElem _⟩,frozenAt g1 _⟩
      obtain ⟨u,q1⟩:=q1
      have c4:=hJ2.head.cells.2.2.2.2
      clear hJ2 hJ3
      go_wp2_with fail
      go_roundw
      case rel=>exact ⟨k+1,by go_num,by omega,hJ4⟩
      case measure=>simp [intOf];omega
     ·obtain rfl:k=199:=by omega
      clear hkl hk
      have hJ5:JJ w B wr (x++y.map (shF ap)) n (fun z=>z) (fun _=>0) (fun _=>0):=hJ2.congr (fun v h1 h2=>by rw [if_pos (by omega)]) (fun _ _=>rfl) (fun _ _=>rfl)
      clear hJ2
      obtain ⟨J,hJJ⟩:∃ J,jl x y ap=J:=⟨_,rfl⟩
      have hlen:J.length=n:=by rw [← hJJ];simp [jl];exact HX.out.1
      have hTr:Hid (Trs L J):=by rw [← hJJ];exact trs_jl (by omega) HX.out.2.1 HX.out.2.2
      have hJ6:JJ w B wr J n (fun z=>z) (fun _=>0) (fun _=>0):=by rw [← hJJ];exact hJ5
      have HJ:Hid (jl x y ap=J):=hJJ
      have hni:(n:Int)≤4000:=by omega
      clear hJ5 hJJ HX hy hn1
      go_wp2_with fail
      go_loopw [14] (fun s14 wr=>∃ m:Nat,s14=.int .i64 ((m:Int)-1)∧m≤n∧JJ w B wr J n (fun z=>z) (fun i=>if m≤i then (endN L J i:Int) else 0) (fun i=>if m≤i then ld0 J i else 0)) (fun s14 _=>(intOf s14+1).toNat)
      case atStart=>exact ⟨n,rfl,by omega,hJ6.congr (fun _ _ _=>rfl) (fun i hi=>by rw [if_neg (by omega)]) (fun i hi=>by rw [if_neg (by omega)])⟩
      case round=>
       clear hJ6
       obtain ⟨m,rfl,hm,hJ6⟩:=hrel
       cases m with
       | zero=>
        have fin:JMade w L (jl x y ap) (.returned (.pointer (some ⟨B.jb,0,none⟩))) wr:=by
         rw [HJ.out]
         refine ⟨B,rfl,?_⟩
         rw [hlen]
         exact hJ6.congr (fun _ _ _=>rfl) (fun i hi=>by rw [if_pos (by omega)]) (fun i hi=>by rw [if_pos (by omega)])
        clear hJ6
        go_wp2_with fail
        go_returns
        exact fin
       | succ t=>
        have htl:t<n:=by omega
        have htJ:t<J.length:=by omega
        obtain ⟨z,hz⟩:∃ z,J[t]=z:=⟨_,rfl⟩
        have ez:(((t+1:Nat):Int)-1)=(t:Int):=by omega
        rw [ez]
        have k1:(0:Int)≤(t:Int):=by omega
        have k2:(t:Int)<(n:Int):=by omega
        have k3:(t:Int)<4000:=by omega
        obtain ⟨c0,c1,c2,c3,c4⟩:=hJ6.head.cells
        rw [hJ6.cap] at c0
        obtain ⟨s0,s1⟩:=hJ6.same.cell htl
        have hJ7:=hJ6.setSame t (t:Int)
        clear hJ6 ez
        go_upto_region 20 with fail
        obtain ⟨w3,hw3⟩:∃ w3,wr.setCell ⟨B.sb,t,none⟩ (.int .i64 (t:Int))=w3:=⟨_,rfl⟩
        rw [hw3] at hJ7 ⊢
        clear hw3 c0 c1 c2 c3 c4 s0 s1
        obtain ⟨c0,c1,c2,c3,c4⟩:=hJ7.head.cells
        rw [hJ7.cap] at c0
        have dl:w3.cell? ⟨B.lb,t,none⟩=some (.int .i64 z):=by
         rw [hJ7.row.cellAt t (by rw [hlen];omega),iv_get (by omega),← hz]
        obtain ⟨s0,s1⟩:=hJ7.same.cell htl
        by_cases hzn:z<0
        ·have hJ8:=hJ7.setSame t z
         clear hJ7
         go_upto_region 23 with fail
         obtain ⟨w4,hw4⟩:∃ w4,w3.setCell ⟨B.sb,t,none⟩ (.int .i64 z)=w4:=⟨_,rfl⟩
         rw [hw4] at hJ8 ⊢
         have hJ7:JJ w B w4 J n (fun z=>z) (fun i=>if t+1≤i then (endN L J i:Int) else 0) (fun i=>if t≤i then ld0 J i else 0):=by
          refine hJ8.congr (fun _ _ _=>rfl) (fun _ _=>rfl) (fun i hi=>?_)
          by_cases e:i=t
          ·subst e
           rw [if_pos rfl,if_pos (Nat.le_refl _)]
           unfold ld0
           rw [at'_nat J i htJ,hz,if_pos ⟨by omega,hzn⟩]
          ·rw [if_neg e,if_neg e]
           by_cases e2:t+1≤i
           ·rw [if_pos e2,if_pos (by omega)]
           ·rw [if_neg e2,if_neg (by omega)]
         clear hJ8 hw4 c0 c1 c2 c3 c4 s0 s1 dl
         have ce0:=hJ7.head.cells
         obtain ⟨d0,d1,d2,d3,d4⟩:=ce0
         rw [hJ7.cap] at d0
         have dl:w4.cell? ⟨B.lb,t,none⟩=some (.int .i64 z):=by
          rw [hJ7.row.cellAt t (by rw [hlen];omega),iv_get (by omega),← hz]
         have cA:=at_ar (h.same hJ7.kept) z
         obtain ⟨A,hA⟩:∃ A,arN L z=A:=⟨_,rfl⟩
         rw [hA] at cA
         have hA6:A≤6:=by rw [← hA];exact arN_le h.2 z
         have HF:Hid (Forest L J A (t+1) (endN L J t)):=by
          have:=hTr.out.kids (show t<J.length by omega)
          rw [hz,hA] at this;exact this
         go_upto_region 24 with (first | (go_at_call 128;refine cA.mono ?_;rintro e w5 ⟨s,d,c,rfl,hk5⟩))
         have hJ8:=hJ7.same0 hk5
         have hx16:=heap_alloc_new w5 (.cells #[.string s,.int .i64 (A:Int),.bool d] 60)
         have hJ9:=hJ8.same0 ((Kept.refl _ w5).alloc (.cells #[.string s,.int .i64 (A:Int),.bool d] 60))
         obtain ⟨w6,hw6⟩:∃ w6,w5.alloc (.cells #[.string s,.int .i64 (A:Int),.bool d] 60)=w6:=⟨_,rfl⟩
         rw [hw6] at hJ9 hx16 ⊢
         have hbe:B.eb<w5.heap.size:=hJ8.ends.lt
         obtain ⟨xb,hxb⟩:∃ xb,w5.heap.size=xb:=⟨_,rfl⟩
         rw [hxb] at hx16 hbe ⊢
         clear hw6 hxb hJ8 hJ7 hk5 d0 d1 d2 d3 d4 dl
         obtain ⟨d0,d1,d2,d3,d4⟩:=hJ9.head.cells
         obtain ⟨s0,s1⟩:=hJ9.ends.cell htl
         have hJ10:=hJ9.setEnd t ((t:Int)+1)
         have hx17:(w6.setCell ⟨B.eb,t,none⟩ (.int .i64 ((t:Int)+1))).heap[xb]? = some (.cells #[.string s,.int .i64 (A:Int),.bool d] 60 (0,0)):=by
          rw [Below.heap_setCell _ _ _ _ (by simp only;omega)];exact hx16
         clear hJ9 hx16
         go_upto_region 25 with fail
         obtain ⟨w7,hw7⟩:∃ w7,w6.setCell ⟨B.eb,t,none⟩ (.int .i64 ((t:Int)+1))=w7:=⟨_,rfl⟩
         rw [hw7] at hJ10 hx17 ⊢
         have hx18:=cellAt hx17 1
         simp only [List.getElem?_toArray,List.getElem?_cons_succ,List.getElem?_cons_zero] at hx18
         clear hw7 d0 d1 d2 d3 d4 s0 s1 hx17
         have hAi:(A:Int)≤6:=by omega
         go_wp2_with fail
         go_loopw [126] (fun s126 wr=>∃ j:Nat,s126=.int .i64 (j:Int)∧j≤A∧JJ w B wr J n (fun z=>z) (fun i=>if i=t then (past L J j (t+1):Int) else if t+1≤i then (endN L J i:Int) else 0) (fun i=>if t≤i then ld0 J i else 0)) (fun s126 _=>A-(intOf s126).toNat)
         case atStart=>exact ⟨0,rfl,by omega,hJ10.congr (fun _ _ _=>rfl) (fun i hi=>by simp [past]) (fun _ _=>rfl)⟩
         case round=>
          clear hJ10
          obtain ⟨j,rfl,hj,hJ10⟩:=hrel
          by_cases hjA:j<A
          ·have j1:(0:Int)≤(j:Int):=by omega
           have j2:(j:Int)<(A:Int):=by omega
           obtain ⟨q,hq⟩:∃ q,past L J j (t+1)=q:=⟨_,rfl⟩
           have hq1:t+1≤q:=by rw [← hq];exact past_ge HF.out hj
           have hq2:q<n:=by
            have hd:=HF.out.drop hj
            obtain ⟨c,hc⟩:∃ c,A-j=c+1:=⟨A-j-1,by omega⟩
            rw [hc,hq] at hd
            have:=hd.pos;have:=hd.le;omega
           have hps:past L J (j+1) (t+1)=endN L J q:=by rw [past_succ,hq]
           have e1:=(hJ10.ends.cell htl)
           have e2:=(hJ10.ends.cell hq2).1
           rw [if_pos rfl,hq] at e1
           rw [if_neg (by omega),if_pos hq1] at e2
           obtain ⟨e1,e3⟩:=e1
           have hJ11:=hJ10.setEnd t (endN L J q:Int)
           have hJ12:JJ w B (wr.setCell ⟨B.eb,t,none⟩ (.int .i64 (endN L J q:Int))) J n (fun z=>z) (fun i=>if i=t then (past L J (j+1) (t+1):Int) else if t+1≤i then (endN L J i:Int) else 0) (fun i=>if t≤i then ld0 J i else 0):=by
            refine hJ11.congr (fun _ _ _=>rfl) (fun i hi=>?_) (fun _ _=>rfl)
            by_cases e:i=t
            ·subst e;rw [if_pos rfl,if_pos rfl,hps]
            ·rw [if_neg e,if_neg e,if_neg e]
           have hJ13:Hid (JJ w B (wr.setCell ⟨B.eb,t,none⟩ (.int .i64 (endN L J q:Int))).drew J n (fun z=>z) (fun i=>if i=t then (past L J (j+1) (t+1):Int) else if t+1≤i then (endN L J i:Int) else 0) (fun i=>if t≤i then ld0 J i else 0)):=hJ12.same0 ((Kept.refl _ _).drew)
           obtain ⟨d0,d1,d2,d3,d4⟩:=hJ10.head.cells
           have q1:(0:Int)≤(q:Int):=by omega
           have q2:(q:Int)<(n:Int):=by omega
           clear hJ10 hJ11 hJ12 hq hps
           go_upto_region 27 with fail
           go_region
           all_goals
            go_wp2_with fail
            go_roundw
            case rel=>exact ⟨j+1,by go_num,by omega,hJ13.out⟩
            case measure=>simp [intOf];omega
          ·obtain rfl:j=A:=by omega
           have hfin:JJ w B wr J n (fun z=>z) (fun i=>if t≤i then (endN L J i:Int) else 0) (fun i=>if t≤i then ld0 J i else 0):=by
            refine hJ10.congr (fun _ _ _=>rfl) (fun i hi=>?_) (fun _ _=>rfl)
            by_cases e:i=t
            ·subst e;rw [if_pos rfl,if_pos (Nat.le_refl _),HF.out.past]
            ·rw [if_neg e]
             by_cases e2:t+1≤i
             ·rw [if_pos e2,if_pos (by omega)]
             ·rw [if_neg e2,if_neg (by omega)]
           clear hJ10
           go_wp2_with fail
           go_roundw
           case rel=>exact ⟨t,by go_num,by omega,hfin⟩
           case measure=>simp [intOf]
        ·have hJ8:JJ w B w3 J n (fun z=>z) (fun i=>if t+1≤i then (endN L J i:Int) else 0) (fun i=>if t≤i then ld0 J i else 0):=by
          refine hJ7.congr (fun _ _ _=>rfl) (fun _ _=>rfl) (fun i hi=>?_)
          by_cases e:i=t
          ·subst e
           rw [if_pos rfl,if_pos (Nat.le_refl _)]
           unfold ld0
           rw [at'_nat J i htJ,hz,if_neg (by omega)]
          ·rw [if_neg e]
           by_cases e2:t+1≤i
           ·rw [if_pos e2,if_pos (by omega)]
           ·rw [if_neg e2,if_neg (by omega)]
         clear hJ7
         go_upto_region 23 with fail
         obtain ⟨w4,hw4⟩:∃ w4,w4=w3:=⟨_,rfl⟩
         have hJ7:=hJ8
         rw [← hw4] at hJ7 ⊢
         clear hJ8 c0 c1 c2 c3 c4 s0 s1 dl hw4
         have ce0:=hJ7.head.cells
         obtain ⟨d0,d1,d2,d3,d4⟩:=ce0
         rw [hJ7.cap] at d0
         have dl:w4.cell? ⟨B.lb,t,none⟩=some (.int .i64 z):=by
          rw [hJ7.row.cellAt t (by rw [hlen];omega),iv_get (by omega),← hz]
         have cA:=at_ar (h.same hJ7.kept) z
         obtain ⟨A,hA⟩:∃ A,arN L z=A:=⟨_,rfl⟩
         rw [hA] at cA
         have hA6:A≤6:=by rw [← hA];exact arN_le h.2 z
         have HF:Hid (Forest L J A (t+1) (endN L J t)):=by
          have:=hTr.out.kids (show t<J.length by omega)
          rw [hz,hA] at this;exact this
         go_upto_region 24 with (first | (go_at_call 128;refine cA.mono ?_;rintro e w5 ⟨s,d,c,rfl,hk5⟩))
         have hJ8:=hJ7.same0 hk5
         have hx16:=heap_alloc_new w5 (.cells #[.string s,.int .i64 (A:Int),.bool d] 60)
         have hJ9:=hJ8.same0 ((Kept.refl _ w5).alloc (.cells #[.string s,.int .i64 (A:Int),.bool d] 60))
         obtain ⟨w6,hw6⟩:∃ w6,w5.alloc (.cells #[.string s,.int .i64 (A:Int),.bool d] 60)=w6:=⟨_,rfl⟩
         rw [hw6] at hJ9 hx16 ⊢
         have hbe:B.eb<w5.heap.size:=hJ8.ends.lt
         obtain ⟨xb,hxb⟩:∃ xb,w5.heap.size=xb:=⟨_,rfl⟩
         rw [hxb] at hx16 hbe ⊢
         clear hw6 hxb hJ8 hJ7 hk5 d0 d1 d2 d3 d4 dl
         obtain ⟨d0,d1,d2,d3,d4⟩:=hJ9.head.cells
         obtain ⟨s0,s1⟩:=hJ9.ends.cell htl
         have hJ10:=hJ9.setEnd t ((t:Int)+1)
         have hx17:(w6.setCell ⟨B.eb,t,none⟩ (.int .i64 ((t:Int)+1))).heap[xb]? = some (.cells #[.string s,.int .i64 (A:Int),.bool d] 60 (0,0)):=by
          rw [Below.heap_setCell _ _ _ _ (by simp only;omega)];exact hx16
         clear hJ9 hx16
         go_upto_region 25 with fail
         obtain ⟨w7,hw7⟩:∃ w7,w6.setCell ⟨B.eb,t,none⟩ (.int .i64 ((t:Int)+1))=w7:=⟨_,rfl⟩
         rw [hw7] at hJ10 hx17 ⊢
         have hx18:=cellAt hx17 1
         simp only [List.getElem?_toArray,List.getElem?_cons_succ,List.getElem?_cons_zero] at hx18
         clear hw7 d0 d1 d2 d3 d4 s0 s1 hx17
         have hAi:(A:Int)≤6:=by omega
         go_wp2_with fail
         go_loopw [126] (fun s126 wr=>∃ j:Nat,s126=.int .i64 (j:Int)∧j≤A∧JJ w B wr J n (fun z=>z) (fun i=>if i=t then (past L J j (t+1):Int) else if t+1≤i then (endN L J i:Int) else 0) (fun i=>if t≤i then ld0 J i else 0)) (fun s126 _=>A-(intOf s126).toNat)
         case atStart=>exact ⟨0,rfl,by omega,hJ10.congr (fun _ _ _=>rfl) (fun i hi=>by simp [past]) (fun _ _=>rfl)⟩
         case round=>
          clear hJ10
          obtain ⟨j,rfl,hj,hJ10⟩:=hrel
          by_cases hjA:j<A
          ·have j1:(0:Int)≤(j:Int):=by omega
           have j2:(j:Int)<(A:Int):=by omega
           obtain ⟨q,hq⟩:∃ q,past L J j (t+1)=q:=⟨_,rfl⟩
           have hq1:t+1≤q:=by rw [← hq];exact past_ge HF.out hj
           have hq2:q<n:=by
            have hd:=HF.out.drop hj
            obtain ⟨c,hc⟩:∃ c,A-j=c+1:=⟨A-j-1,by omega⟩
            rw [hc,hq] at hd
            have:=hd.pos;have:=hd.le;omega
           have hps:past L J (j+1) (t+1)=endN L J q:=by rw [past_succ,hq]
           have e1:=(hJ10.ends.cell htl)
           have e2:=(hJ10.ends.cell hq2).1
           rw [if_pos rfl,hq] at e1
           rw [if_neg (by omega),if_pos hq1] at e2
           obtain ⟨e1,e3⟩:=e1
           have hJ11:=hJ10.setEnd t (endN L J q:Int)
           have hJ12:JJ w B (wr.setCell ⟨B.eb,t,none⟩ (.int .i64 (endN L J q:Int))) J n (fun z=>z) (fun i=>if i=t then (past L J (j+1) (t+1):Int) else if t+1≤i then (endN L J i:Int) else 0) (fun i=>if t≤i then ld0 J i else 0):=by
            refine hJ11.congr (fun _ _ _=>rfl) (fun i hi=>?_) (fun _ _=>rfl)
            by_cases e:i=t
            ·subst e;rw [if_pos rfl,if_pos rfl,hps]
            ·rw [if_neg e,if_neg e,if_neg e]
           have hJ13:Hid (JJ w B (wr.setCell ⟨B.eb,t,none⟩ (.int .i64 (endN L J q:Int))).drew J n (fun z=>z) (fun i=>if i=t then (past L J (j+1) (t+1):Int) else if t+1≤i then (endN L J i:Int) else 0) (fun i=>if t≤i then ld0 J i else 0)):=hJ12.same0 ((Kept.refl _ _).drew)
           obtain ⟨d0,d1,d2,d3,d4⟩:=hJ10.head.cells
           have q1:(0:Int)≤(q:Int):=by omega
           have q2:(q:Int)<(n:Int):=by omega
           clear hJ10 hJ11 hJ12 hq hps
           go_upto_region 27 with fail
           go_region
           all_goals
            go_wp2_with fail
            go_roundw
            case rel=>exact ⟨j+1,by go_num,by omega,hJ13.out⟩
            case measure=>simp [intOf];omega
          ·obtain rfl:j=A:=by omega
           have hfin:JJ w B wr J n (fun z=>z) (fun i=>if t≤i then (endN L J i:Int) else 0) (fun i=>if t≤i then ld0 J i else 0):=by
            refine hJ10.congr (fun _ _ _=>rfl) (fun i hi=>?_) (fun _ _=>rfl)
            by_cases e:i=t
            ·subst e;rw [if_pos rfl,if_pos (Nat.le_refl _),HF.out.past]
            ·rw [if_neg e]
             by_cases e2:t+1≤i
             ·rw [if_pos e2,if_pos (by omega)]
             ·rw [if_neg e2,if_neg (by omega)]
           clear hJ10
           go_wp2_with fail
           go_roundw
           case rel=>exact ⟨t,by go_num,by omega,hfin⟩
           case measure=>simp [intOf]
def JB.Way (B:JB) (k:Nat):Prop:=k=B.jb∨k=B.sb
theorem JB.way (B:JB) (x:Int):B.Way (nxB B x):=by
 unfold nxB;split
 ·exact .inl rfl
 ·exact .inr rfl
set_option maxHeartbeats 2000000 in
theorem leader_any {L:List Sym} {w:World} {B:JB} {J:List Int} {ld:Int→Int} {sz:Nat→Int} (h:JAt L B w J ld sz) {x:Int} (hx:UPart J x) :
  Calls Tryz.prog 238 #[.pointer (some ⟨B.jb,0,none⟩),.int .i64 x] w fun e w' => e=.returned (.int .i64 (ld x))∧JAt L B w' J ld sz∧Kept B.Way w w' := by
 obtain ⟨nx,ρ,hC,hL⟩:=h
 go_enter Tryz.func238,Tryz.ntmps238
 go_wp2_with fail
 go_loopw [1] (fun tp wr=>∃ y ny,tp=.int .i64 y∧UPart J y∧ld y=ld x∧JC L B wr J ny sz∧Led J ny ld ρ∧Kept B.Way w wr) (fun tp _=>ρ (intOf tp))
 case atStart=>exact ⟨x,nx,rfl,hx,rfl,hC,hL,Kept.refl _ _⟩
 case round=>
  obtain ⟨y,ny,rfl,hy,hyx,hC', hL', hK⟩:=hrel
  have c1:=unext_any hC' hy
  have py:=hL'.part y hy
  have c2:=unext_any hC' py
  obtain ⟨a1,a2⟩:=hC'.next hy
  obtain ⟨b1,b2⟩:=hC'.next py
  have hlt:=hy.1
  have hpt:=hC'.put hy (ny (ny y))
  by_cases hn:ny y=y
  ·have e1:ld x=y:=by rw [← hyx];exact (hL'.stop y hy).1 hn
   have fin:JAt L B wr J ld sz:=⟨ny,ρ,hC', hL'⟩
   rw [hn] at a1
   clear hC hL hC' hL' hpt c2 b1 b2
   go_wp2_with (go_at_call 239;refine c1.mono ?_;rintro e w' ⟨rfl,rfl⟩)
   go_returns
   exact ⟨by rw [e1];rfl,fin,hK⟩
  ·obtain ⟨hL2,hd⟩:=hL'.halve hy hn
   obtain ⟨hC2,hK2⟩:=hpt
   have hK3:Kept B.Way w (wr.setCell (nxA B y) (.int .i64 (ny (ny y)))):=hK.trans hK2 (fun i _ e=>by rw [e];exact B.way y)
   have pz:=hL'.part _ py
   have lz:ld (ny (ny y))=ld x:=by rw [hL'.lead _ py,hL'.lead _ hy,hyx]
   have n3:=hC2.next hy
   clear hC hL hC' hL'
   go_upto_region 4 with (go_at_call 239;refine c1.mono ?_;rintro e w' ⟨rfl,rfl⟩)
   go_wp2_with (go_at_call 239;refine c2.mono ?_;rintro e w' ⟨rfl,rfl⟩)
   go_roundw
   case rel=>exact ⟨_,_,rfl,pz,lz,hC2,hL2,hK3⟩
   case measure=>simpa [intOf] using hd
end Go.Proofs.YtmjgnfkbnofjoaaGreatDoor
namespace Go.Proofs.YtmjgnfkbnofjoaaGreatDoor
set_option maxRecDepth 100000
set_option linter.unusedVariables false
open Go.RowKit
def runCells (l:List (Nat × Nat × Nat)):List Value:=l.flatMap fun r=>[.int .i64 (r.1:Int),.int .i64 (r.2.1:Int),.int .i64 (r.2.2:Int)]
theorem runCells_length (l:List (Nat × Nat × Nat)):(runCells l).length=l.length * 3:=by
 induction l with
 | nil=>rfl
 | cons x r ih=>simp [runCells] at ih ⊢;omega
theorem runCells_append (a b:List (Nat × Nat × Nat)):runCells (a++b)=runCells a++runCells b:=by simp [runCells]
theorem runCells_top (x y o:Nat) (rs:List (Nat × Nat × Nat)):runCells ((x,y,o) :: rs).reverse=runCells rs.reverse ++ [.int .i64 (x:Int),.int .i64 (y:Int),.int .i64 (o:Int)]:=by
 rw [List.reverse_cons,runCells_append];simp [runCells]
theorem info_run:(Tryz.prog.info? 361).map (fun i=>(i.zero,i.size,i.bytes))=some (some (.agg #[.int .i64 0,.int .i64 0,.int .i64 0]),3,24):=by kernel_rfl
def RRow (base:Nat) (w:World) (v:Value) (rs:List (Nat × Nat × Nat)):Prop:=w.ownsRow base 361 3 v rs.length (runCells rs.reverse)
theorem RRow.top {base:Nat} {w:World} {v:Value} {x y o:Nat} {rs:List (Nat × Nat × Nat)} (h:RRow base w v ((x,y,o) :: rs)) :
  ∃ g cap,v=.slice (some ⟨g,0,none⟩) (rs.length+1) cap∧base≤g∧g<w.heap.size∧rs.length+1≤cap∧w.cell? ⟨g,rs.length * 3,none⟩=some (.int .i64 (x:Int))∧w.cell? ⟨g,rs.length * 3+1,none⟩=some (.int .i64 (y:Int))∧w.cell? ⟨g,rs.length * 3+2,none⟩=some (.int .i64 (o:Int))∧w.frozen? ⟨g,rs.length * 3,none⟩=false∧w.frozen? ⟨g,rs.length * 3+2,none⟩=false:=by
 obtain ⟨g,cap,hv,hb,hlt⟩:=World.ownsRow.form h (by simp)
 have hcap:rs.length+1≤cap:=by
  rcases h.2 with ⟨e,_⟩ | ⟨g', cap', cur,hv', _,_,hle,_⟩
  ·rw [hv] at e;cases e
  ·rw [hv] at hv'
   simp only [Value.slice.injEq] at hv'
   have:=hv'.2.2
   simp at hle;omega
 subst hv
 have h' : w.ownsRow base 361 3 (.slice (some ⟨g,0,none⟩) (rs.length+1) cap) (rs.length+1) (runCells rs.reverse ++ [.int .i64 (x:Int),.int .i64 (y:Int),.int .i64 (o:Int)]):=by rw [← runCells_top];exact h
 have hl:(runCells rs.reverse).length=rs.length * 3:=by rw [runCells_length,List.length_reverse]
 refine ⟨g,cap,rfl,hb,hlt,hcap,?_,?_,?_,h'.frozenAt _,h'.frozenAt _⟩
 ·rw [h'.cellAt _ (by omega),List.getElem?_append_right (by omega),hl];simp
 ·rw [h'.cellAt _ (by omega),List.getElem?_append_right (by omega),hl];simp
 ·rw [h'.cellAt _ (by omega),List.getElem?_append_right (by omega),hl];simp
theorem RRow.kept {base:Nat} {S:Nat→Prop} {w w' : World} {v:Value} {rs:List (Nat × Nat × Nat)} (h:RRow base w v rs) (hk:Kept S w w') (hs:∀ k,base≤k→¬ S k):RRow base w' v rs:=by
 refine hk.row h (fun k e=>hs k ?_)
 rcases h.2 with ⟨e', _⟩ | ⟨g,cap,cur,hv,hb,_⟩
 ·rw [e'] at e;simp [Value.ownBlock] at e
 ·rw [hv] at e;simp [Value.ownBlock] at e;omega
theorem RRow.on {base:Nat} {w:World} {g cap:Nat} {x y o:Nat} {rs:List (Nat × Nat × Nat)} (h:RRow base w (.slice (some ⟨g,0,none⟩) (rs.length+1) cap) ((x,y,o) :: rs)) (x' o' : Nat) :
  RRow base ((w.setCell ⟨g,rs.length * 3,none⟩ (.int .i64 (x' : Int))).setCell ⟨g,rs.length * 3+2,none⟩ (.int .i64 (o' : Int))) (.slice (some ⟨g,0,none⟩) (rs.length+1) cap) ((x', y,o') :: rs):=by
 have h' : w.ownsRow base 361 3 (.slice (some ⟨g,0,none⟩) (rs.length+1) cap) (rs.length+1) (runCells rs.reverse ++ [.int .i64 (x:Int),.int .i64 (y:Int),.int .i64 (o:Int)]):=by rw [← runCells_top];exact h
 have hl:(runCells rs.reverse).length=rs.length * 3:=by rw [runCells_length,List.length_reverse]
 have h1:=(h'.stored (rs.length * 3) (.int .i64 (x' : Int))).1
 have h2:=(h1.stored (rs.length * 3+2) (.int .i64 (o' : Int))).1
 have e:((runCells rs.reverse ++ [Value.int .i64 (x:Int),.int .i64 (y:Int),.int .i64 (o:Int)]).set (rs.length * 3) (.int .i64 (x' : Int))).set (rs.length * 3+2) (.int .i64 (o' : Int))=runCells rs.reverse ++ [.int .i64 (x' : Int),.int .i64 (y:Int),.int .i64 (o' : Int)]:=by
  rw [List.set_append_right _ _ (by omega),List.set_append_right _ _ (by omega),hl]
  simp [show rs.length * 3+2-rs.length * 3=2 by omega]
 rw [e] at h2
 unfold RRow
 rw [runCells_top];exact h2
theorem RRow.less {base:Nat} {w:World} {g cap:Nat} {x y o:Nat} {rs:List (Nat × Nat × Nat)} (h:RRow base w (.slice (some ⟨g,0,none⟩) (rs.length+1) cap) ((x,y,o) :: rs)):RRow base w (.slice (some ⟨g,0,none⟩) rs.length cap) rs:=by
 have hl:(runCells rs.reverse).length=rs.length * 3:=by rw [runCells_length,List.length_reverse]
 have h' : w.ownsRow base 361 3 (.slice (some ⟨g,0,none⟩) (rs.length+1) cap) (rs.length+1) (runCells rs.reverse ++ [.int .i64 (x:Int),.int .i64 (y:Int),.int .i64 (o:Int)]):=by rw [← runCells_top];exact h
 have hmn:rs.length * 3≤(rs.length+1) * 3:=by omega
 refine ⟨by rw [hl],?_⟩
 rcases h'.2 with ⟨e1,_⟩ | ⟨g', cap', cur,hv,hb,hg,h1,h2,h3,h4⟩
 ·cases e1
 ·simp only [Value.slice.injEq,Option.some.injEq,Addr.mk.injEq,and_true,true_and] at hv
  obtain ⟨rfl,rfl⟩:=hv
  refine .inr ⟨g,cap,cur,rfl,hb,hg,by omega,h2,h3,?_⟩
  have:=congrArg (List.take (rs.length * 3)) h4
  rw [List.take_take,Nat.min_eq_left hmn,List.take_left' hl] at this
  exact this
end Go.Proofs.YtmjgnfkbnofjoaaGreatDoor
