import Derived.Test.YtmjgnfkbnofjoaaGreatDoorSW17
import Derived.Deep.RegionHeld3
import Derived.Test.YtmjgnfkbnofjoaaGreatDoorSW05
import Derived.Test.YtmjgnfkbnofjoaaGreatDoorSW07
import Derived.Test.YtmjgnfkbnofjoaaGreatDoorSW06
namespace Go.Proofs.YtmjgnfkbnofjoaaGreatDoor
set_option maxRecDepth 100000
set_option linter.unusedVariables false
open Go.RowKit
attribute [local go_sem ↓] Go.wp_at_zero Go.wp_at_succ
def tri (a b c:List Int):Nat→List Int:=fun i=>if i=0 then a else if i=1 then b else c
theorem tri_one {T U U' R:List Int}:∀ j,j<3→j≠1→tri T U' R j=tri T U R j:=fun j _ e=>by unfold tri;rw [if_neg e,if_neg e]
theorem tri_two {T U R R' : List Int}:∀ j,j<3→j≠2→tri T U R' j=tri T U R j:=by
 intro j h e
 unfold tri
 by_cases e0:j=0
 ·rw [if_pos e0,if_pos e0]
 ·rw [if_neg e0,if_neg e0]
  by_cases e1:j=1
  ·rw [if_pos e1,if_pos e1]
  ·omega
structure LS (w0 w:World) (rv sa sb:Value) (vs:Nat→Value) (va:Value) (xs:Nat→List Int) (AA:List (List Int)):Prop where
 fam:Fam (w0.heap.size+2) w vs xs va AA
 blk:w.heap[w0.heap.size]? = some (.cells #[rv,vs 0,va,vs 1,vs 2] 341 (0,0))
 two:w.heap[w0.heap.size+1]? = some (.cells #[sa,sb] 74 (0,0))
 kept:Same0 w0 w
 big:w0.heap.size+2≤w.heap.size
theorem LS.same {w0 w w' : World} {rv sa sb:Value} {vs:Nat→Value} {va:Value} {xs:Nat→List Int} {AA:List (List Int)} (h:LS w0 w rv sa sb vs va xs AA) (hk:Same0 w w'):LS w0 w' rv sa sb vs va xs AA:=
 ⟨h.fam.same hk,hk.at0 h.blk,hk.at0 h.two,h.kept.trans' hk,Nat.le_trans h.big hk.size⟩
theorem LS.store {w0 w w9:World} {rv sa sb:Value} {vs vs' : Nat→Value} {va va' : Value} {xs xs' : Nat→List Int} {AA AA' : List (List Int)} (h:LS w0 w rv sa sb vs va xs AA) (hf:Fam (w0.heap.size+2) w9 vs' xs' va' AA') (hk:Kept (fun q=>w0.heap.size+2≤q) w w9) {s:Nat} {v:Value} (hs:(#[rv,vs 0,va,vs 1,vs 2]:Array Value).setIfInBounds s v = #[rv,vs' 0,va', vs' 1,vs' 2]):LS w0 (w9.setCell ⟨w0.heap.size,s,none⟩ v) rv sa sb vs' va' xs' AA' ∧ w9.heap[w0.heap.size]? = some (.cells #[rv,vs 0,va,vs 1,vs 2] 341 (0,0)):=by
 have b1:=hk.at h.blk (by omega)
 have b2:=hk.at h.two (by omega)
 have k2:Kept (fun q=>q=w0.heap.size) w9 (w9.setCell ⟨w0.heap.size,s,none⟩ v):=Kept.setCell (S:=fun q=>q=w0.heap.size) (p:=⟨w0.heap.size,s,none⟩) (Kept.refl _ _) (fun _=>rfl) _
 refine ⟨⟨hf.keep k2 (fun q hq e=>by omega),by rw [setAt b1,hs],k2.at b2 (by omega),(h.kept.trans hk (fun q hq f=>by omega)).trans k2 (fun q hq e=>by omega),?_⟩,b1⟩
 have:=hk.size
 have:=k2.size
 have:=h.big
 omega
theorem LS.cells {w0 w:World} {rv sa sb:Value} {vs:Nat→Value} {va:Value} {xs:Nat→List Int} {AA:List (List Int)} (h:LS w0 w rv sa sb vs va xs AA):w.cell? ⟨w0.heap.size,1,none⟩=some (vs 0)∧w.cell? ⟨w0.heap.size,2,none⟩=some va∧w.cell? ⟨w0.heap.size,3,none⟩=some (vs 1)∧w.cell? ⟨w0.heap.size,4,none⟩=some (vs 2)∧w.cell? ⟨w0.heap.size+1,0,none⟩=some sa∧w.cell? ⟨w0.heap.size+1,1,none⟩=some sb∧∀ s,w.frozen? ⟨w0.heap.size,s,none⟩=false:=
 ⟨cellAt h.blk 1,cellAt h.blk 2,cellAt h.blk 3,cellAt h.blk 4,cellAt h.two 0,cellAt h.two 1,fun s=>frozenAt h.blk s⟩
theorem LS.push {w0 w w1 w9:World} {rv sa sb:Value} {vs:Nat→Value} {va:Value} {xs xs' : Nat→List Int} {AA:List (List Int)} (h:LS w0 w rv sa sb vs va xs AA) {i s:Nat} (hi:i<3) (hs:s=if i=0 then 1 else i+2) {gg cap' l H:Nat} {z:Int} (hl:(xs i).length=l) (hk:Same0 w w1) (hown:w9.ownsRow (w0.heap.size+2) 3 1 (.slice (some ⟨gg,0,none⟩) (l+1) cap') (l+1) (iv (xs i) ++ [.int .i64 z])) (hgrow:w1.grownBy w9 (vs i).ownBlock) (hat:(vs i).ownBlock=some gg∨gg=H) (hH:w.heap.size≤H) (e1:xs' i=xs i ++ [z]) (e2:∀ j,j<3→j≠i→xs' j=xs j) :
  LS w0 (w9.setCell ⟨w0.heap.size,s,none⟩ (.slice (some ⟨gg,0,none⟩) (l+1) cap')) rv sa sb (fun j=>if j=i then .slice (some ⟨gg,0,none⟩) (l+1) cap' else vs j) va xs' AA∧w9.cell? ⟨w0.heap.size,s,none⟩=some (vs i)∧w9.frozen? ⟨w0.heap.size,s,none⟩=false:=by
 obtain ⟨f1,f2⟩:=h.fam.push hi hl hk hown hgrow (hat.imp id (fun e=>by omega)) e1 e2
 rcases (show i=0∨i=1∨i=2 by omega) with rfl | rfl | rfl
 ·obtain rfl:s=1:=by simpa using hs
  obtain ⟨g1,g2⟩:=h.store f1 f2 (s:=1) (v:=.slice (some ⟨gg,0,none⟩) (l+1) cap') (by simp)
  exact ⟨g1,cellAt g2 1,frozenAt g2 1⟩
 ·obtain rfl:s=3:=by simpa using hs
  obtain ⟨g1,g2⟩:=h.store f1 f2 (s:=3) (v:=.slice (some ⟨gg,0,none⟩) (l+1) cap') (by simp)
  exact ⟨g1,cellAt g2 3,frozenAt g2 3⟩
 ·obtain rfl:s=4:=by simpa using hs
  obtain ⟨g1,g2⟩:=h.store f1 f2 (s:=4) (v:=.slice (some ⟨gg,0,none⟩) (l+1) cap') (by simp)
  exact ⟨g1,cellAt g2 4,frozenAt g2 4⟩
theorem LS.more {w0 w w1 w9:World} {rv sa sb:Value} {vs:Nat→Value} {va:Value} {xs:Nat→List Int} {AA:List (List Int)} {cs0:List Value} (h:LS w0 w rv sa sb vs va xs AA) {gg cap' l H:Nat} {v:Value} {ys:List Int} (hl:AA.length=l) (hv:Row (w0.heap.size+2) w v ys) (hva:∀ q,v.ownBlock=some q→va.ownBlock≠some q∧∀ i,i<3→(vs i).ownBlock≠some q) (hcs:w.ownsRow (w0.heap.size+2) 51 1 va l cs0) (hk:Same0 w w1) (hown:w9.ownsRow (w0.heap.size+2) 51 1 (.slice (some ⟨gg,0,none⟩) (l+1) cap') (l+1) (cs0 ++ [v])) (hgrow:w1.grownBy w9 va.ownBlock) (hat:va.ownBlock=some gg∨gg=H) (hH:w.heap.size≤H) :
  LS w0 (w9.setCell ⟨w0.heap.size,2,none⟩ (.slice (some ⟨gg,0,none⟩) (l+1) cap')) rv sa sb vs (.slice (some ⟨gg,0,none⟩) (l+1) cap') xs (AA ++ [ys])∧w9.cell? ⟨w0.heap.size,2,none⟩=some va∧w9.frozen? ⟨w0.heap.size,2,none⟩=false:=by
 subst hl
 obtain ⟨f1,f2⟩:=h.fam.more hv hva hcs hk hown hgrow (hat.imp id (fun e=>by omega))
 obtain ⟨g1,g2⟩:=h.store f1 f2 (s:=2) (v:=.slice (some ⟨gg,0,none⟩) (AA.length+1) cap') (by simp)
 exact ⟨g1,cellAt g2 2,frozenAt g2 2⟩
theorem LS.pe {w0 w:World} {rv sa sb:Value} {vs:Nat→Value} {va:Value} {xs xs' : Nat→List Int} {AA:List (List Int)} (h:LS w0 w rv sa sb vs va xs AA) {i s:Nat} (hi:i<3) (hs:s=if i=0 then 1 else i+2) {l:Nat} {z:Int} (hl:(xs i).length=l) (e1:xs' i=xs i ++ [z]) (e2:∀ j,j<3→j≠i→xs' j=xs j) :
  ∃ ro rc,vs i=.slice ro l rc∧w.ownsRow (w0.heap.size+2) 3 1 (.slice ro l rc) l (iv (xs i))∧w0.heap.size+2≤(w.alloc (.cells #[.int .i64 z] 3)).heap.size∧Hid (∀ gg cap' w9,w9.ownsRow (w0.heap.size+2) 3 1 (.slice (some ⟨gg,0,none⟩) (l+1) cap') (l+1) (iv (xs i) ++ [.int .i64 z])→(w.alloc (.cells #[.int .i64 z] 3)).grownBy w9 (Value.slice ro l rc).ownBlock→((Value.slice ro l rc).ownBlock=some gg∨gg=(w.alloc (.cells #[.int .i64 z] 3)).heap.size)→LS w0 (w9.setCell ⟨w0.heap.size,s,none⟩ (.slice (some ⟨gg,0,none⟩) (l+1) cap')) rv sa sb (fun j=>if j=i then .slice (some ⟨gg,0,none⟩) (l+1) cap' else vs j) va xs' AA∧w9.cell? ⟨w0.heap.size,s,none⟩=some (.slice ro l rc)∧w9.frozen? ⟨w0.heap.size,s,none⟩=false):=by
 have h0:w.ownsRow (w0.heap.size+2) 3 1 (vs i) l (iv (xs i)):=by
  have:=h.fam.rows i hi
  unfold Row at this
  rw [hl] at this;exact this
 obtain ⟨ro,rc,hv⟩:=row_shape h0
 have kd:Same0 w (w.alloc (.cells #[.int .i64 z] 3)):=Kept.alloc (Kept.refl _ w) _
 refine ⟨ro,rc,hv,hv ▸ h0,by have:=kd.size;have:=h.big;omega,?_⟩
 intro gg cap' w9 q1 q2 q3
 rw [← hv] at q2 q3 ⊢
 exact h.push hi hs hl kd q1 q2 q3 kd.size e1 e2
theorem Fam.put {b2:Nat} {w:World} {vs:Nat→Value} {xs xs' : Nat→List Int} {va:Value} {AA:List (List Int)} (h:Fam b2 w vs xs va AA) {i:Nat} (hi:i<3) {g n cap k:Nat} {z:Int} (hv:vs i=.slice (some ⟨g,0,none⟩) n cap) (hl:(xs i).length=n) (e1:xs' i=(xs i).set k z) (e2:∀ j,j<3→j≠i→xs' j=xs j) :
  Fam b2 (w.setCell ⟨g,k,none⟩ (.int .i64 z)) vs xs' va AA∧Kept (fun q=>b2≤q) w (w.setCell ⟨g,k,none⟩ (.int .i64 z)):=by
 have kg:Kept (fun q=>q=g) w (w.setCell ⟨g,k,none⟩ (.int .i64 z)):=Kept.setCell (S:=fun q=>q=g) (p:=⟨g,k,none⟩) (Kept.refl _ _) (fun _=>rfl) _
 have own:(vs i).ownBlock=some g:=by rw [hv];rfl
 have hbase:b2≤g:=own_base (h.rows i hi) own
 obtain ⟨cs,a1,a2⟩:=h.ar
 refine ⟨⟨?_,h.ap,h.apa,cs,kg.row a1 (fun q e f=>h.apa i hi g own (f ▸ e)),fun j hj=>?_⟩,kg.mono (fun q _ e=>by omega)⟩
 ·intro j hj
  by_cases ej:j=i
  ·subst ej
   have h0:w.ownsRow b2 3 1 (vs j) n (iv (xs j)):=by
    have:=h.rows j hj
    unfold Row at this
    rw [hl] at this;exact this
   rw [hv] at h0 ⊢
   have:=(h0.stored k (.int .i64 z)).1
   rw [e1]
   unfold Row
   rw [List.length_set,hl]
   have e3:(iv (xs j)).set k (.int .i64 z)=iv ((xs j).set k z):=by unfold iv;rw [List.map_set]
   rw [← e3];exact this
  ·rw [e2 j hj ej]
   exact kg.row (h.rows j hj) (fun q e f=>h.ap j i hj hi ej q e (by rw [f];exact own))
 ·obtain ⟨v,b1,b2', b3⟩:=a2 j hj
  exact ⟨v,b1,kg.row b2' (fun q e f=>(b3 q e).2 i hi (by rw [f];exact own)),b3⟩
theorem LS.put {w0 w:World} {rv sa sb:Value} {vs:Nat→Value} {va:Value} {xs xs' : Nat→List Int} {AA:List (List Int)} (h:LS w0 w rv sa sb vs va xs AA) {i:Nat} (hi:i<3) {g n cap k:Nat} {z:Int} (hv:vs i=.slice (some ⟨g,0,none⟩) n cap) (hl:(xs i).length=n) (e1:xs' i=(xs i).set k z) (e2:∀ j,j<3→j≠i→xs' j=xs j) :
  LS w0 (w.setCell ⟨g,k,none⟩ (.int .i64 z)) rv sa sb vs va xs' AA:=by
 obtain ⟨f1,f2⟩:=h.fam.put (k:=k) hi hv hl e1 e2
 refine ⟨f1,f2.at h.blk (by omega),f2.at h.two (by omega),h.kept.trans f2 (fun q hq f=>by omega),?_⟩
 have:=f2.size
 have:=h.big
 omega
theorem nums_row {base:Nat} {w:World} {g n cap:Nat} {xs:List Int} (h:w.ownsRow base 3 1 (.slice (some ⟨g,0,none⟩) n cap) n (iv xs)):Nums w g n (fun i=>at' xs i):=by
 have hl:xs.length=n:=by have:=h.1;simp [iv] at this;omega
 rcases h.2 with ⟨e,_⟩ | ⟨g', cap', cur,e,hb,hg,h1,h2,h3,h4⟩
 ·cases e
 ·simp only [Value.slice.injEq,Option.some.injEq,Addr.mk.injEq,and_true,true_and] at e
  obtain ⟨rfl,rfl⟩:=e
  refine ⟨cur,_,hg,by omega,fun i hi=>?_⟩
  have e1:cur[i]? = (cur.toList.take (n * 1))[i]? := by rw [List.getElem?_take_of_lt (by omega)];simp
  rw [e1,h4]
  unfold iv
  rw [List.getElem?_map,List.getElem?_eq_getElem (by omega)]
  show _=some (Value.int .i64 (at' xs (i:Nat)))
  rw [at'_nat _ _ (by omega)];rfl
theorem Fam.form {b2:Nat} {w:World} {vs:Nat→Value} {xs:Nat→List Int} {va:Value} {AA:List (List Int)} (h:Fam b2 w vs xs va AA) {i n:Nat} (hi:i<3) (hl:(xs i).length=n) (hn:0<n):∃ g cap,vs i=.slice (some ⟨g,0,none⟩) n cap∧Nums w g n (fun k=>at' (xs i) k)∧g<w.heap.size:=by
 have h0:w.ownsRow b2 3 1 (vs i) n (iv (xs i)):=by
  have:=h.rows i hi
  unfold Row at this
  rw [hl] at this;exact this
 obtain ⟨g,cap,e,h1,h2⟩:=World.ownsRow.form h0 hn
 exact ⟨g,cap,e,nums_row (e ▸ h0),h2⟩
theorem LS.net {w0 w:World} {rv sa sb:Value} {vs:Nat→Value} {va:Value} {L:List Sym} {T J U R:List Int} {N:Nat} {up:Nat→Nat} {rep:Nat→Int} (h:LS w0 w rv sa sb vs va (tri T U R) ((List.range N).map (fun p=>(kidsL L J p).map (fun k:Nat=>(k:Int))))) (hJ:J.length=N) (hT:T.length=N) (hN:0<N) (hU:U.length=N+200) (hR:R.length=N+200) (eU:∀ i,i<N+200→at' U i=(up i:Int)) (eR:∀ i,i<N+200→at' R i=rep i) :
  ∃ B,B.nb=w0.heap.size∧NC L B w T J up rep∧B.top≤w.heap.size∧w0.heap.size≤B.ub∧w0.heap.size≤B.rb:=by
 obtain ⟨tb,tc,t1,t2,t3⟩:=h.fam.form (i:=0) (n:=N) (by omega) hT hN
 obtain ⟨ub,uc,u1,u2,u3⟩:=h.fam.form (i:=1) (n:=N+200) (by omega) hU (by omega)
 obtain ⟨rb,rc,r1,r2,r3⟩:=h.fam.form (i:=2) (n:=N+200) (by omega) hR (by omega)
 obtain ⟨cs,a1,a2⟩:=h.fam.ar
 rw [List.length_map,List.length_range] at a1
 obtain ⟨ab,ac,v1,v2,v3⟩:=World.ownsRow.form a1 hN
 have o0:(vs 0).ownBlock=some tb:=by rw [t1];rfl
 have o1:(vs 1).ownBlock=some ub:=by rw [u1];rfl
 have o2:(vs 2).ownBlock=some rb:=by rw [r1];rfl
 have oa:va.ownBlock=some ab:=by rw [v1];rfl
 have hb1:=own_base (h.fam.rows 1 (by omega)) o1
 have hb2:=own_base (h.fam.rows 2 (by omega)) o2
 have hbig:=h.big
 have n2:tb≠ub:=fun e=>h.fam.ap 0 1 (by omega) (by omega) (by omega) tb o0 (by rw [e];exact o1)
 have n2' : tb≠rb:=fun e=>h.fam.ap 0 2 (by omega) (by omega) (by omega) tb o0 (by rw [e];exact o2)
 have n3:ab≠ub:=fun e=>h.fam.apa 1 (by omega) ub o1 (by rw [← e];exact oa)
 have n3' : ab≠rb:=fun e=>h.fam.apa 2 (by omega) rb o2 (by rw [← e];exact oa)
 have n4:ub≠rb:=fun e=>h.fam.ap 1 2 (by omega) (by omega) (by omega) ub o1 (by rw [e];exact o2)
 refine ⟨⟨w0.heap.size,tb,ab,ub,rb,tc,ac,uc,rc,rv,w.heap.size⟩,rfl,⟨?_,?_,?_,v3,?_,?_,?_,?_,?_,n4,by show w0.heap.size<w.heap.size;omega,t3,v3,u3,r3⟩,Nat.le_refl _,by show w0.heap.size≤ub;omega,by show w0.heap.size≤rb;omega⟩
 ·show w.heap[w0.heap.size]? = _
  rw [h.blk,t1,u1,r1,v1,hJ]
 ·show Nums w tb J.length _
  rw [hJ];exact t2
 ·intro p hp
  rw [hJ] at hp
  obtain ⟨v,b1,b2,b3⟩:=a2 p (by simpa using hp)
  have hc:=World.ownsRow.cellAt (v1 ▸ a1) p (by omega)
  have e3:((List.range N).map (fun p=>(kidsL L J p).map (fun k:Nat=>(k:Int))))[p]'(by simpa using hp)=(kidsL L J p).map (fun k:Nat=>(k:Int)):=by simp
  rw [e3] at b2
  obtain ⟨go,gc,rfl,g2,g3,g4⟩:=b2.ints
  rw [List.length_map] at b1
  refine ⟨go,gc,by rw [hc,b1],g2,fun a e=>?_⟩
  subst e
  have hq:=b3 a.block rfl
  refine ⟨?_,(g4 a rfl).2⟩
  rintro (f | f)
  ·exact hq.2 1 (by omega) (by rw [f];exact o1)
  ·exact hq.2 2 (by omega) (by rw [f];exact o2)
 ·show Nums w ub (J.length+200) _
  rw [hJ];exact u2.congr eU
 ·show Nums w rb (J.length+200) _
  rw [hJ];exact r2.congr eR
 ·rintro (f | f)
  ·have:w0.heap.size=ub:=f;omega
  ·have:w0.heap.size=rb:=f;omega
 ·rintro (f | f)
  ·exact n2 f
  ·exact n2' f
 ·rintro (f | f)
  ·exact n3 f
  ·exact n3' f
def LMade (w:World) (L:List Sym) (ap:Bool) (a b:List Int) (e:Ending) (w' : World):Prop:=∃ B,e=.returned (.pointer (some ⟨B.nb,0,none⟩))∧NC L B w' (a++b) (jl a b (apI ap)) (up0 ap (a.length+b.length) a.length (a++b)) (rep0 (a.length+b.length) (a++b))∧B.top≤w'.heap.size∧Same0 w w' ∧ w.heap.size≤B.ub∧w.heap.size≤B.rb
theorem variable_any (w:World) (N which:Nat) (ap:Bool) (n:Nat) (hN:N≤4000) (hw:which≤1) (hn:n≤98):Calls Tryz.prog 233 #[.int .i64 (N:Int),.bool ap,.int .i64 (which:Int),.int .i64 (n:Int)] w fun e w' => e=.returned (.int .i64 (varN ap N which (-(n:Int)-1):Int))∧w' = w:=by
 have e0:(-(-(n:Int)-1)-1).toNat=n:=by omega
 cases ap
 ·have e1:((varN false N which (-(n:Int)-1):Nat):Int)=(N:Int)+2 * (n:Int):=by unfold varN;rw [e0];simp
  rw [e1]
  have i1:(N:Int)≤4000:=by omega
  have i2:(n:Int)≤98:=by omega
  go_enter Tryz.func233,Tryz.ntmps233
  go_wp2_with fail
  go_returns
  exact ⟨rfl,rfl⟩
 ·have e1:((varN true N which (-(n:Int)-1):Nat):Int)=(N:Int)+2 * (n:Int)+(which:Int):=by unfold varN;rw [e0];simp
  rw [e1]
  have i1:(N:Int)≤4000:=by omega
  have i2:(n:Int)≤98:=by omega
  have i3:(which:Int)≤1:=by omega
  go_enter Tryz.func233,Tryz.ntmps233
  go_wp2_with fail
  go_returns
  exact ⟨rfl,rfl⟩
end Go.Proofs.YtmjgnfkbnofjoaaGreatDoor
namespace Go.Proofs.YtmjgnfkbnofjoaaGreatDoor
set_option linter.unusedVariables false
theorem good_two {L:List Sym} {a b:List Int} {ap:Int} (h0:0≤ap) (x3:IsT L a) (y3:IsT L b) {vv:Int→List Int} (vT:∀ n,n<0→IsT L (vv n)) {T:List Int} (va:subV vv a=T) (vb:subV vv (b.map (shF ap))=T) :
  ∃ val:Int→List Int,Good L (jl a b ap) val∧val 0=T∧val (a.length:Nat)=T∧∀ n,n<0→val n=vv n:=by
 have hT:=trs_jl (apart:=ap) h0 x3 y3
 obtain ⟨val,hval⟩:∃ val:Int→List Int,val=fun x=>if x<0 then vv x else subV vv (cutJ L (jl a b ap) x.toNat):=⟨_,rfl⟩
 have vn:∀ n,n<0→val n=vv n:=fun n hn=>by rw [hval];simp only;rw [if_pos hn]
 have vp:∀ p:Nat,val p=subV vv (cutJ L (jl a b ap) p):=fun p=>by rw [hval];simp only;rw [if_neg (by omega),Int.toNat_natCast]
 refine ⟨val,⟨fun p hp hs=>?_,fun p hp hs=>?_,fun x hx=>?_⟩,?_,?_,vn⟩
 ·rw [vp,cut_sym hT hp,subV_cons,if_neg (by omega),subV_flat]
  simp only [vp];rfl
 ·rw [vp,cut_sym hT hp,subV_cons,if_pos hs,vn _ hs]
  have:kidsL L (jl a b ap) p=[]:=by unfold kidsL;rw [show arN L (at' (jl a b ap) p)=0 by unfold arN;rw [if_pos hs]];rfl
  rw [this];simp [subV]
 ·by_cases h:x<0
  ·rw [vn x h];exact vT x h
  ·obtain ⟨p,rfl⟩:=Int.eq_ofNat_of_zero_le (Int.not_lt.1 h)
   have:=vp p
   show IsT L (val (p:Int))
   rw [this]
   unfold IsT
   rw [need_subV _ (fun n _ hn=>vT n hn)]
   exact cut_isT hT (by have:=hx.2;omega)
 ·have:=vp 0
  rw [show ((0:Nat):Int)=0 from rfl] at this
  rw [this,← va]
  congr 1
  unfold cutJ
  rw [show endN L (jl a b ap) 0=a.length from end_first (b:=b.map (shF ap)) x3]
  unfold jl
  rw [List.drop_zero,Nat.sub_zero,List.take_left]
 ·rw [vp,← vb]
  congr 1
  unfold cutJ
  rw [show endN L (jl a b ap) a.length=a.length+(b.map (shF ap)).length from end_second (a:=a) (isT_sh h0 y3)]
  unfold jl
  rw [List.drop_left,Nat.add_sub_cancel_left,List.take_length]
theorem closed_good {L:List Sym} {a b:List Int} {ap:Nat} (hap:ap≤99) (ha:checkE L a=0) (hb:checkE L b=0) {ld:Int→Int} (hc:Closed L (jl a b ap) a.length ld) {u:List Int} (hu:Val L (jl a b ap) ld 0 u) :
  ∃ val:Int→List Int,Good L (jl a b ap) val∧val 0=u∧val (a.length:Nat)=u∧∀ n,n<0→IsT L (val n):=by
 obtain ⟨x1,x2,x3⟩:=checkE_zero.1 ha
 obtain ⟨y1,y2,y3⟩:=checkE_zero.1 hb
 have hlow:=jl_low ha hb hap
 obtain ⟨f,hf⟩:=varT_some L (jl a b ap) ld
 obtain ⟨e1,e2⟩:=both_sub (by omega) x3 y3 hc hf hu
 obtain ⟨vv,hvv⟩:∃ vv:Int→List Int,vv=fun n=>if -198≤n then f n else [n]:=⟨_,rfl⟩
 have v1:∀ n, -198≤n→vv n=f n:=fun n h=>by rw [hvv];simp only;rw [if_pos h]
 have vT:∀ n,n<0→IsT L (vv n):=by
  intro n hn
  by_cases h : -198≤n
  ·rw [v1 n h];exact hf.isT hc.trs hc.ok hn ⟨h,by omega⟩
  ·rw [hvv];simp only;rw [if_neg h];exact isT_var L hn
 have va:subV vv a=u:=by
  rw [e1]
  exact subV_congr a (fun n hn _=>v1 n (hlow n (by unfold jl;simp [hn])))
 have vb:subV vv (b.map (shF ap))=u:=by
  rw [e2]
  exact subV_congr _ (fun n hn _=>v1 n (hlow n (by unfold jl;exact List.mem_append_right _ hn)))
 obtain ⟨val,g1,g2,g3,g4⟩:=good_two (ap:=(ap:Int)) (by omega) x3 y3 vT va vb
 exact ⟨val,g1,g2,g3,fun n hn=>by rw [g4 n hn];exact vT n hn⟩
def nsF (L:List Sym) (J:List Int) (m:Nat):Option ((Int→Int) × Int):=
 match netF L J ((J.length+1) * J.length+2) (ld0 J) [(0,m)] with
 | some (some ld)=>
  match sizF L J ld (J.length+1) (fun _=>0) 0 with
  | some (k,_)=>if k = -1 then none else some (ld,k)
  | none=>none
 | _=>none
theorem nsol_any {L:List Sym} {J:List Int} (hT:Trs L J) (hv:∀ x∈J, -198≤x) {m:Nat} (h0:0<J.length) (hm:m<J.length) :
  ∃ res,NOk L J res ((J.length+1) * J.length+2) (ld0 J) [(0,m)]∧(res=none→nsF L J m=none)∧∀ ld,res=some ld→Closed L J m ld∧∃ k sz', sizF L J ld (J.length+1) (fun _=>0) 0=some (k,sz')∧(k = -1→nsF L J m=none)∧(k ≠ -1→nsF L J m=some (ld,k)∧∃ u,Val L J ld 0 u∧k=min (u.length:Int) 2001):=by
 have hl:=ld0_ok hv
 have hroot:=roots_len J (ld0 J)
 have hb:=Nat.mul_le_mul_left (J.length+1) hroot
 have hp:∀ r∈[((0:Nat),m)],r.1<J.length∧r.2<J.length:=fun r hr=>by simp at hr;rw [hr];exact ⟨h0,hm⟩
 obtain ⟨res,e1⟩:=net_ends hT ((J.length+1) * J.length+2) (ld0 J) [(0,m)] hl hp (by simp;omega)
 have hN:NOk L J res ((J.length+1) * J.length+2) (ld0 J) [(0,m)]:=⟨hT,hl,hp,e1,by simp;omega⟩
 refine ⟨res,hN,?_,?_⟩
 ·intro e
  rw [e] at e1
  unfold nsF;rw [e1]
 ·intro ld e
  subst e
  have hc:=closed_net hN
  have hz:SzOk (fun _=>0):=fun p=>.inr ⟨by simp,by simp⟩
  have hk:Known L J ld (fun _=>0):=fun p _ _ h=>by simp at h
  have p0:UPart J 0:=part_nat (p:=0) h0
  obtain ⟨k,sz', g1,g2⟩:=sizF_ends hT hc.ok (J.length+1) (fun _=>0) 0 p0 hz (by have:=unk_le J.length (fun _=>0);omega)
  obtain ⟨-,g4⟩:=sizF_known hT hc.ok _ _ _ _ _ p0 hz hk g1
  refine ⟨hc,k,sz', g1,?_,?_⟩
  ·intro e
   unfold nsF;rw [e1];simp only [g1];rw [if_pos e]
  ·intro e
   exact ⟨by unfold nsF;rw [e1];simp only [g1];rw [if_neg e],g4 e⟩
theorem net_good {L:List Sym} {J:List Int} (hT:Trs L J) (hv:∀ x∈J, -198≤x) {m:Nat} (h0:0<J.length) (hm:m<J.length) {val:Int→List Int} (hg:Good L J val) (he:val 0=val m) :
  ∃ ld k u,nsF L J m=some (ld,k)∧Closed L J m ld∧Val L J ld 0 u∧k=min (u.length:Int) 2001∧val 0=subV val u:=by
 obtain ⟨res,hU,hR1,hR2⟩:=nsol_any hT hv h0 hm
 have hst:∀ x,UPart J x→val (ld0 J x)=val x:=by
  intro x hx
  by_cases h:0≤x∧at' J x<0
  ·have e:ld0 J x=at' J x:=by unfold ld0;rw [if_pos h]
   obtain ⟨p,rfl⟩:=Int.eq_ofNat_of_zero_le h.1
   rw [e]
   exact (hg.var p (by have:=hx.2;omega) h.2).symm
  ·have e:ld0 J x=x:=by unfold ld0;rw [if_neg h]
   rw [e]
 obtain ⟨ld,rfl,hc⟩:=net_least (good_inj hT hg) _ _ _ _ hU hst (fun r hr=>by
  simp only [List.mem_cons,List.not_mem_nil,or_false] at hr
  subst hr
  exact he)
 obtain ⟨hcl,k,sz', hs,hk1,hk2⟩:=hR2 ld rfl
 obtain ⟨u,hu,hvu⟩:=val_exists hT hcl.ok hg hc _ 0 (Nat.le_refl _) (part_nat (p:=0) h0)
 have hk:k ≠ -1:=fun e=>(sizF_none hT hcl.ok _ _ _ _ _ (part_nat (p:=0) h0) (fun p=>.inr ⟨by simp,by simp⟩) hs).2 e (fun p _ _ f=>by simp at f) u hu
 obtain ⟨e1,u', hu', hku⟩:=hk2 hk
 have:=hu'.uniq hu
 subst this
 exact ⟨ld,k,u', e1,hcl,hu,hku,hvu⟩
theorem net_same {L:List Sym} {a b:List Int} {ap:Nat} (hap:ap≤99) (ha:checkE L a=0) (hb:checkE L b=0) :
  (nsF L (jl a b ap) a.length=none→solF L (jl a b ap) a.length=none)∧∀ ld k u,nsF L (jl a b ap) a.length=some (ld,k)→Closed L (jl a b ap) a.length ld→Val L (jl a b ap) ld 0 u→∃ v,ComU L a b ap v∧v.length=u.length∧wrF [] u=wrF [] v:=by
 obtain ⟨x1,x2,x3⟩:=checkE_zero.1 ha
 obtain ⟨y1,y2,y3⟩:=checkE_zero.1 hb
 have hT:=trs_jl (apart:=(ap:Int)) (by omega) x3 y3
 have hv:=jl_low ha hb hap
 have p1:=isT_pos x3
 have p2:=isT_pos y3
 have hl:(jl a b ap).length=a.length+b.length:=by simp [jl]
 constructor
 ·intro h
  rcases com_u hap ha hb with e | ⟨u,ld,k,h1,hc,hu,h3⟩
  ·exact e
  ·obtain ⟨val,g1,g2,g3,g4⟩:=closed_good hap ha hb hc hu
   obtain ⟨ld', k', u', e1,_⟩:=net_good hT hv (m:=a.length) (by omega) (by omega) g1 (by rw [g2,g3])
   rw [h] at e1;cases e1
 ·intro ld k u h hc hu
  obtain ⟨val,g1,g2,g3,g4⟩:=closed_good hap ha hb hc hu
  obtain ⟨ld', k', v,e1,hc', hv', hk', ev,_⟩:=sol_good hT hv (m:=a.length) (by omega) (by omega) g1 (by rw [g2,g3])
  obtain ⟨val2,f1,f2,f3,f4⟩:=closed_good hap ha hb hc' hv'
  obtain ⟨ld2,k2,u2,d1,d2,d3,d4,d5⟩:=net_good hT hv (m:=a.length) (by omega) (by omega) f1 (by rw [f2,f3])
  rw [h] at d1
  simp only [Option.some.injEq,Prod.mk.injEq] at d1
  obtain ⟨rfl,rfl⟩:=d1
  have:=d3.uniq hu
  subst this
  rw [g2] at ev
  rw [f2] at d5
  have e:=both_ways (g:=val) (g' := val2) (fun n _ hn=>g4 n hn) (fun n _ hn=>f4 n hn) ev d5
  have hll:=congrArg List.length e
  rw [wrF_length,wrF_length] at hll
  exact ⟨v,⟨ld', k', e1,hc', hv', hk'⟩,hll.symm,e⟩
end Go.Proofs.YtmjgnfkbnofjoaaGreatDoor
namespace Go.Proofs.YtmjgnfkbnofjoaaGreatDoor
set_option maxRecDepth 100000
set_option linter.unusedVariables false
open Go.RowKit
attribute [local go_sem ↓] Go.wp_at_zero Go.wp_at_succ
def SolQ (L:List Sym) (ap:Bool) (T J:List Int) (la:Nat) (w:World) (e:Ending) (w' : World):Prop:=Same0 w w' ∧ (nsF L J la=none→e=.returned (.tuple #[.pointer none,.int .i64 0]))∧∀ ld k,nsF L J la=some (ld,k)→∃ B,e=.returned (.tuple #[.pointer (some ⟨B.nb,0,none⟩),.int .i64 k])∧NAt L ap B w' T J ld∧B.top≤w'.heap.size
theorem apI_nat (ap:Bool):∃ k:Nat,apI ap=(k:Int)∧k≤99:=by cases ap;exact ⟨0,rfl,by omega⟩;exact ⟨99,rfl,by omega⟩
theorem jl_syms {a b:List Int} {ap:Bool} {p:Nat} (hp:p<(jl a b (apI ap)).length) (h:0≤at' (jl a b (apI ap)) p):at' (a++b) p=at' (jl a b (apI ap)) p:=by
 have hl:p<a.length+b.length:=by simpa [jl] using hp
 have e:=at_jl (ap:=ap) hl
 have h0:0≤apI ap:=by unfold apI;split <;> omega
 rw [e] at h ⊢
 by_cases q:at' (a++b) p<0∧a.length≤p
 ·rw [if_pos q] at h;omega
 ·rw [if_neg q]
set_option maxHeartbeats 4000000 in
theorem solved_any {w:World} {rv:Value} {L:List Sym} {ao bo:Option Addr} {ac bc:Nat} {a b:List Int} (hca:checkE L a=0) (hcb:checkE L b=0) {ap:Bool} (cL:Calls Tryz.prog 225 #[rv,.slice ao a.length ac,.slice bo b.length bc,.bool ap] w (LMade w L ap a b)) :
  Calls Tryz.prog 193 #[rv,.slice ao a.length ac,.slice bo b.length bc,.bool ap] w (SolQ L ap (a++b) (jl a b (apI ap)) a.length w):=by
 obtain ⟨i0,hi0,hz0,hz1,hz2⟩:=info_parts info_intN
 obtain ⟨a1,a2,a3⟩:=checkE_zero.1 hca
 obtain ⟨b1,b2,b3⟩:=checkE_zero.1 hcb
 have p1:=isT_pos a3
 have p2:=isT_pos b3
 obtain ⟨k9,hk9,hk99⟩:=apI_nat ap
 have hap0:0≤apI ap:=by omega
 have hT:=trs_jl (apart:=apI ap) hap0 a3 b3
 have hv:∀ x∈jl a b (apI ap), -198≤x:=by rw [hk9];exact jl_low hca hcb hk99
 obtain ⟨cl0,ρ0,hr0⟩:=nr_zero (ap:=ap) (fun x hx=>((badE_zero.1 a2) x hx).2) (fun x hx=>((badE_zero.1 b2) x hx).2)
 have hsy:∀ p:Nat,p<(jl a b (apI ap)).length→0≤at' (jl a b (apI ap)) p→at' (a++b) p=at' (jl a b (apI ap)) p:=fun p hp h=>jl_syms hp h
 unfold LMade at cL
 obtain ⟨J,hJ⟩:∃ J,jl a b (apI ap)=J:=⟨_,rfl⟩
 obtain ⟨T,hTT⟩:∃ T,a++b=T:=⟨_,rfl⟩
 have hJl:J.length=a.length+b.length:=by rw [← hJ];simp [jl]
 rw [hJ] at hT hv hr0 cL hsy ⊢
 rw [hTT] at hr0 cL hsy ⊢
 obtain ⟨up0', hup0⟩:∃ u,up0 ap (a.length+b.length) a.length T=u:=⟨_,rfl⟩
 obtain ⟨rep0', hrep0⟩:∃ u,rep0 (a.length+b.length) T=u:=⟨_,rfl⟩
 rw [hup0,hrep0] at hr0 cL
 obtain ⟨la,hla⟩:∃ la,a.length=la:=⟨_,rfl⟩
 obtain ⟨lb,hlb⟩:∃ lb,b.length=lb:=⟨_,rfl⟩
 rw [hla] at cL hJl a1 p1 ⊢
 rw [hlb] at cL hJl b1 p2 ⊢
 obtain ⟨res,hN,hR1,hR2⟩:=nsol_any hT hv (m:=la) (by omega) (by omega)
 have CJ:Hid (∀ B w1,NC L B w1 T J up0' rep0' → B.top≤w1.heap.size→Calls Tryz.prog 226 #[.pointer (some ⟨B.nb,0,none⟩),.int .i64 0,.int .i64 (la:Int)] w1 (NEnd L ap B T J res w1)):=by
  intro B w1 h1 h2
  exact njoin_any (a:=0) (m:=la) ⟨_,_,_,_,h1,hr0⟩ (by omega) hsy h2 hN
 clear hr0 hsy hup0 hrep0 hla hlb hJ hTT hk9 hca hcb a2 b2 a3 b3
 cases res with
 | none=>
  have HX:Hid (∀ w', Same0 w w' → SolQ L ap T J la w (.returned (.tuple #[.pointer none,.int .i64 0])) w'):=by
   intro w' hk
   refine ⟨hk,fun _=>rfl,fun ld k e=>?_⟩
   rw [hR1 rfl] at e;cases e
  clear hN hR1 hR2 hT hv
  go_enter Tryz.func193,Tryz.ntmps193
  go_wp2_with (first | (go_at_call 225;refine cL.mono ?_;rintro e w1 ⟨B,rfl,hC1,ht1,hk1,hu1,hb1⟩) | (go_at_call 226;refine (CJ.out B w1 hC1 ht1).mono ?_;rintro e w2 ⟨-,hj2,hk2⟩;obtain rfl:=hj2 rfl))
  go_ret2
  exact HX.out _ (hk1.trans hk2 (fun q hq f=>by rcases f with f | f <;> omega))
 | some ld=>
  obtain ⟨hcl,k,sz', hs,hk1,hk2⟩:=hR2 ld rfl
  obtain ⟨M,hM⟩:∃ M,J.length+200=M:=⟨_,rfl⟩
  have hm1:∀ w:World,(Instr.makeSlice 51 (.int .i64 (M:Int)) (.int .i64 (M:Int))).run Tryz.prog w=.ok (.slice (some ⟨w.heap.size,0,none⟩) M M) (w.alloc (.cells (madeCells #[.int .i64 0] M) 3)):=fun w=>by
   have:=run_make w 51 3 i0 _ Tryz.underlying51 hi0 hz0 .i64 .i64 (M:Int) (M:Int) (by omega) (by omega) (by rw [hz2];omega) (by omega)
   simpa [hz1,Value.cells] using this
  have CS:Hid (∀ B w2 up rep cl ρ,NC L B w2 T J up rep→NR ap J up rep cl ρ ld→B.top≤w2.heap.size→Calls Tryz.prog 227 #[.pointer (some ⟨B.nb,0,none⟩),.slice (some ⟨w2.heap.size,0,none⟩) M M,.int .i64 0] (w2.alloc (.cells (madeCells #[.int .i64 0] M) 3)) (NSPost ap J rep cl w2.heap.size (w2.alloc (.cells (madeCells #[.int .i64 0] M) 3)) k sz')):=by
   intro B w2 up rep cl ρ h1 h2 h3
   subst hM
   exact nsize_any hT hcl.ok (by omega) h2 h3 _ _ _ _ 0 k sz' (h1.same (Kept.alloc (Kept.refl _ w2) _)) (nums_new w2 (J.length+200)) (fun c _ _=>⟨fun p _=>rfl,fun _=>.inl rfl⟩) (by omega) (fun p=>.inr ⟨by simp,by simp⟩) hs
  have C3:Hid (∀ B w2 up rep,NC L B w2 T J up rep→w2.cell? ⟨B.nb,3,none⟩=some (.slice (some ⟨B.ub,0,none⟩) M B.uc)):=by
   intro B w2 up rep h1
   rw [← hM];exact h1.cells.2.2.1
  have K4:Hid (∀ (B:NB) (w1 w2 w4:World),Same0 w w1→Kept B.Two w1 w2→w.heap.size≤B.ub→w.heap.size≤B.rb→Kept (fun q=>q=w2.heap.size) (w2.alloc (.cells (madeCells #[.int .i64 0] M) 3)) w4→Same0 w w4):=by
   intro B w1 w2 w4 q1 q2 q3 q4 q5
   have s1:=q1.size
   have s2:=q2.size
   have k2:Same0 w w2:=q1.trans q2 (fun q hq f=>by rcases f with f | f <;> omega)
   exact (k2.trans' (Kept.alloc (Kept.refl _ w2) _)).trans q5 (fun q hq f=>by omega)
  by_cases hkk:k = -1
  ·have HX:Hid (∀ w', Same0 w w' → SolQ L ap T J la w (.returned (.tuple #[.pointer none,.int .i64 0])) w'):=by
    intro w' hk
    refine ⟨hk,fun _=>rfl,fun ld k e=>?_⟩
    rw [hk1 hkk] at e;cases e
   have CS2:Hid (∀ B w2 up rep cl ρ,NC L B w2 T J up rep→NR ap J up rep cl ρ ld→B.top≤w2.heap.size→Calls Tryz.prog 227 #[.pointer (some ⟨B.nb,0,none⟩),.slice (some ⟨w2.heap.size,0,none⟩) M M,.int .i64 0] (w2.alloc (.cells (madeCells #[.int .i64 0] M) 3)) fun e w4=>e=.returned (.int .i64 (-2))∧Kept (fun q=>q=w2.heap.size) (w2.alloc (.cells (madeCells #[.int .i64 0] M) 3)) w4):=by
    intro B w2 up rep cl ρ h1 h2 h3
    refine (CS.out B w2 up rep cl ρ h1 h2 h3).mono ?_
    rintro e w4 ⟨q1,mz', _,_,q4⟩
    rw [if_pos hkk] at q1
    exact ⟨q1,q4⟩
   clear hN hR1 hR2 hT hv CS hs hcl hk1 hk2 hM hkk
   go_enter Tryz.func193,Tryz.ntmps193
   go_wp2_with (first | (go_at_call 225;refine cL.mono ?_;rintro e w1 ⟨B,rfl,hC1,ht1,hk1,hu1,hb1⟩) | (go_at_call 226;refine (CJ.out B w1 hC1 ht1).mono ?_;rintro e w2 ⟨hj2, -,hk2⟩;obtain ⟨rfl,up2,rep2,cl2,ρ2,hC2,hr2⟩:=hj2 ld rfl;have c3:=C3.out B w2 up2 rep2 hC2;have ht2:=Nat.le_trans ht1 hk2.size) | (go_at_call 227;refine (CS2.out B w2 up2 rep2 cl2 ρ2 hC2 hr2 ht2).mono ?_;rintro e w4 ⟨rfl,hk4⟩))
   go_ret2
   exact HX.out _ (K4.out B w1 w2 _ hk1 hk2 hu1 hb1 hk4)
  ·obtain ⟨e1,u,hu,hku⟩:=hk2 hkk
   have hpos:0≤k:=by omega
   have HX:Hid (∀ B w', Same0 w w' → NAt L ap B w' T J ld→B.top≤w'.heap.size→SolQ L ap T J la w (.returned (.tuple #[.pointer (some ⟨B.nb,0,none⟩),.int .i64 k])) w'):=by
    intro B w' q1 q2 q3
    refine ⟨q1,fun e=>(by rw [e1] at e;cases e),fun ld' k' e=>?_⟩
    rw [e1] at e
    simp only [Option.some.injEq,Prod.mk.injEq] at e
    obtain ⟨rfl,rfl⟩:=e
    exact ⟨B,rfl,q2,q3⟩
   have CS2:Hid (∀ B w2 up rep cl ρ,NC L B w2 T J up rep→NR ap J up rep cl ρ ld→B.top≤w2.heap.size→Calls Tryz.prog 227 #[.pointer (some ⟨B.nb,0,none⟩),.slice (some ⟨w2.heap.size,0,none⟩) M M,.int .i64 0] (w2.alloc (.cells (madeCells #[.int .i64 0] M) 3)) fun e w4=>e=.returned (.int .i64 k)∧NAt L ap B w4 T J ld∧B.top≤w4.heap.size∧Kept (fun q=>q=w2.heap.size) (w2.alloc (.cells (madeCells #[.int .i64 0] M) 3)) w4):=by
    intro B w2 up rep cl ρ h1 h2 h3
    refine (CS.out B w2 up rep cl ρ h1 h2 h3).mono ?_
    rintro e w4 ⟨q1,mz', _,_,q4⟩
    rw [if_neg hkk] at q1
    have h1' := h1.same (Kept.alloc (Kept.refl _ w2) (.cells (madeCells #[.int .i64 0] M) 3))
    refine ⟨q1,⟨up,rep,cl,ρ,h1'.kept q4 (fun q hq f=>by omega),h2⟩,?_,q4⟩
    have:=q4.size
    rw [World.size_alloc] at this
    omega
   clear hN hR1 hR2 hT hv CS hs hcl hk1 hk2 hM hku hu e1
   go_enter Tryz.func193,Tryz.ntmps193
   go_wp2_with (first | (go_at_call 225;refine cL.mono ?_;rintro e w1 ⟨B,rfl,hC1,ht1,hk1,hu1,hb1⟩) | (go_at_call 226;refine (CJ.out B w1 hC1 ht1).mono ?_;rintro e w2 ⟨hj2, -,hk2⟩;obtain ⟨rfl,up2,rep2,cl2,ρ2,hC2,hr2⟩:=hj2 ld rfl;have c3:=C3.out B w2 up2 rep2 hC2;have ht2:=Nat.le_trans ht1 hk2.size) | (go_at_call 227;refine (CS2.out B w2 up2 rep2 cl2 ρ2 hC2 hr2 ht2).mono ?_;rintro e w4 ⟨rfl,hA4,ht4,hk4⟩))
   go_ret2
   exact HX.out B _ (K4.out B w1 w2 _ hk1 hk2 hu1 hb1 hk4) hA4 ht4
theorem rclash_any {w:World} {rv:Value} {L:List Sym} {ao bo:Option Addr} {ac bc:Nat} {a b:List Int} (hca:checkE L a=0) (hcb:checkE L b=0) (cS:Calls Tryz.prog 193 #[rv,.slice ao a.length ac,.slice bo b.length bc,.bool true] w (SolQ L true (a++b) (jl a b (apI true)) a.length w)) :
  Calls Tryz.prog 139 #[rv,.slice ao a.length ac,.slice bo b.length bc] w fun e w' => e=.returned (.bool (claB L a b))∧Same0 w w' := by
 obtain ⟨a1,a2,a3⟩:=checkE_zero.1 hca
 obtain ⟨b1,b2,b3⟩:=checkE_zero.1 hcb
 have p1:=isT_pos a3
 have p2:=isT_pos b3
 have hT:=trs_jl (apart:=(99:Int)) (by omega) a3 b3
 have hv:∀ x∈jl a b 99, -198≤x:=jl_low hca hcb (ap:=99) (by omega)
 have hJl:(jl a b 99).length=a.length+b.length:=by simp [jl]
 obtain ⟨n1,n2⟩:=net_same (ap:=99) (by omega) hca hcb
 obtain ⟨res,hN,hR1,hR2⟩:=nsol_any hT hv (m:=a.length) (by omega) (by omega)
 have e0:apI true=99:=rfl
 rw [e0] at cS
 have ec:claE L a b=0:=by unfold claE;rw [if_neg (by rw [hca];simp),hcb]
 cases hs:nsF L (jl a b 99) a.length with
 | none=>
  have hs2:=n1 hs
  have e1:claB L a b=true:=by unfold claB;rw [ec,show solF L (jl a b 99) a.length=none from hs2];rfl
  rw [e1]
  have cS2:Calls Tryz.prog 193 #[rv,.slice ao a.length ac,.slice bo b.length bc,.bool true] w fun e w' => e=.returned (.tuple #[.pointer none,.int .i64 0])∧Same0 w w' := cS.mono (fun e w' g=>⟨g.2.1 hs,g.1⟩)
  clear cS e1 hR1 hR2 hN n1 n2 hT hv hs ec e0 hs2
  go_enter Tryz.func139,Tryz.ntmps139
  go_wp2_with (first | (go_at_call 193;refine cS2.mono ?_;rintro e w1 ⟨rfl,hk1⟩))
  go_ret
  exact ⟨rfl,hk1⟩
 | some r=>
  obtain ⟨ld,k⟩:=r
  have hfull:Closed L (jl a b 99) a.length ld∧∃ u,Val L (jl a b 99) ld 0 u∧k=min (u.length:Int) 2001:=by
   cases res with
   | none=>rw [hR1 rfl] at hs;cases hs
   | some ld' =>
    obtain ⟨g1,k', sz', g2,g3,g4⟩:=hR2 ld' rfl
    by_cases e:k' = -1
    ·rw [g3 e] at hs;cases hs
    ·obtain ⟨f1,f2⟩:=g4 e
     rw [f1] at hs
     simp only [Option.some.injEq,Prod.mk.injEq] at hs
     obtain ⟨rfl,rfl⟩:=hs
     exact ⟨g1,f2⟩
  obtain ⟨hcl,u,hu,hku⟩:=hfull
  obtain ⟨v,⟨ld2,k2,hsol,_⟩,hvl,hwr⟩:=n2 ld k u hs hcl hu
  have p0:UPart (jl a b 99) 0:=part_nat (p:=0) (by omega)
  have hupos:=isT_pos (hu.isT hT hcl.ok p0)
  have hk0:¬ k=0:=by omega
  have e1:claB L a b=false:=by unfold claB;rw [show solF L (jl a b 99) a.length=some (ld2,k2) from hsol];simp
  rw [e1]
  have cS2:Calls Tryz.prog 193 #[rv,.slice ao a.length ac,.slice bo b.length bc,.bool true] w fun e w' => (∃ B:NB,e=.returned (.tuple #[.pointer (some ⟨B.nb,0,none⟩),.int .i64 k]))∧Same0 w w' := cS.mono (fun e w' g=>⟨(g.2.2 ld k hs).imp (fun B h=>h.1),g.1⟩)
  clear cS e1 hR1 hR2 hN n1 n2 hT hv hs ec e0 hcl hu hku hwr hsol
  go_enter Tryz.func139,Tryz.ntmps139
  go_wp2_with (first | (go_at_call 193;refine cS2.mono ?_;rintro e w1 ⟨⟨B,rfl⟩,hk1⟩))
  go_ret
  exact ⟨by simp [hk0],hk1⟩
end Go.Proofs.YtmjgnfkbnofjoaaGreatDoor
