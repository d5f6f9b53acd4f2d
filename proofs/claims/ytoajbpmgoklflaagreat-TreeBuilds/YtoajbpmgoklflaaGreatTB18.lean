import Derived.Test.YtoajbpmgoklflaaGreatTB04
import Derived.Test.YtoajbpmgoklflaaGreatTB17
import Derived.Test.YtoajbpmgoklflaaGreatTB05
import Derived.Test.YtoajbpmgoklflaaGreatTB14
namespace Go.Proofs.YtoajbpmgoklflaaGreat
set_option linter.unusedVariables false
open Go.RowKit
attribute [local go_sem ↓] Go.wp_at_zero Go.wp_at_succ
def turnCells (l:List (Nat × Nat)):List Value:=l.flatMap fun x=>[.int .i64 (x.1:Int),.int .i64 (x.2:Int)]
theorem turnCells_length (l:List (Nat × Nat)):(turnCells l).length=l.length * 2:=by
 induction l with
 | nil=>rfl
 | cons x r ih=>simp [turnCells] at ih ⊢;omega
theorem turnCells_append (a b:List (Nat × Nat)):turnCells (a++b)=turnCells a++turnCells b:=by simp [turnCells]
theorem turnCells_at {l:List (Nat × Nat)} {i:Nat} (h:i<l.length):(turnCells l)[i * 2]? = some (.int .i64 (l[i].1:Int))∧(turnCells l)[i * 2+1]? = some (.int .i64 (l[i].2:Int)):=by
 induction l generalizing i with
 | nil=>simp at h
 | cons x r ih=>
  have e:turnCells (x :: r)=.int .i64 (x.1:Int) :: .int .i64 (x.2:Int) :: turnCells r:=by simp [turnCells]
  rw [e]
  cases i with
  | zero=>simp
  | succ j=>
   have:=ih (i:=j) (by simpa using h)
   rw [show (j+1) * 2=j * 2+1+1 by omega]
   simpa using this
theorem info_turn:(Tryz.prog.info? 283).map (fun i=>(i.zero,i.size,i.bytes))=some (some (.agg #[.int .i64 0,.int .i64 0]),2,16):=by kernel_rfl
def Fine (st:List (Nat × Nat)):Prop:=∀ x∈st,x.1<x.2∧x.2≤6
theorem bump_fine {st:List (Nat × Nat)} (h:Fine st):Fine (bump st):=by
 induction st with
 | nil=>exact h
 | cons x r ih=>
  obtain ⟨j,a⟩:=x
  have hx:=h (j,a) (by simp)
  have hr:Fine r:=fun y hy=>h y (by simp [hy])
  unfold bump
  split
  ·intro y hy
   rcases List.mem_cons.1 hy with rfl | hy
   ·exact ⟨by simpa using (by assumption:j+1<a),hx.2⟩
   ·exact hr y hy
  ·exact ih hr
theorem pass_fine {st:List (Nat × Nat)} (h:Fine st) {a:Nat} (ha:a≤6):Fine (pass st a):=by
 unfold pass
 split
 ·intro y hy
  rcases List.mem_cons.1 hy with rfl | hy
  ·exact ⟨by assumption,ha⟩
  ·exact h y hy
 ·exact bump_fine h
theorem bump_length (st:List (Nat × Nat)):(bump st).length≤st.length:=by
 induction st with
 | nil=>simp [bump]
 | cons x r ih=>
  obtain ⟨j,a⟩:=x
  unfold bump
  split
  ·simp
  ·simp;omega
theorem pass_length (st:List (Nat × Nat)) (a:Nat):(pass st a).length≤st.length+1:=by
 unfold pass
 split
 ·simp
 ·have:=bump_length st;omega
structure TrailAt (base:Nat) (w:World) (a:Nat) (v:Value) (st:List (Nat × Nat)):Prop where
 blk:w.heap[a]? = some (.cells #[v] 251 (0,0))
 row:w.ownsRow base 283 2 v st.length (turnCells st.reverse)
 ap:v.ownBlock≠some a
 fine:Fine st
 len:st.length≤2000
def TFoot (a:Nat) (v:Value) (k:Nat):Prop:=k=a∨v.ownBlock=some k
theorem TrailAt.same {base:Nat} {w w' : World} {a:Nat} {v:Value} {st:List (Nat × Nat)} (h:TrailAt base w a v st) (k:Same0 w w'):TrailAt base w' a v st:=
 ⟨k.at h.blk (fun f=>f),Kept.row k h.row (fun _ _ f=>f),h.ap,h.fine,h.len⟩
theorem row_take {w:World} {base g n cap size m:Nat} {e:TypeId} {xs:List Value} (h:w.ownsRow base e size (.slice (some ⟨g,0,none⟩) n cap) n xs) (hm:m≤n):w.ownsRow base e size (.slice (some ⟨g,0,none⟩) m cap) m (xs.take (m * size)):=by
 have hl:=h.1
 have hmn:m * size≤n * size:=Nat.mul_le_mul_right _ hm
 refine ⟨by rw [List.length_take,hl];omega,?_⟩
 rcases h.2 with ⟨e1,_⟩ | ⟨g', cap', cur,hv,hb,hg,h1,h2,h3,h4⟩
 ·cases e1
 ·simp only [Value.slice.injEq,Option.some.injEq,Addr.mk.injEq,and_true,true_and] at hv
  obtain ⟨rfl,rfl⟩:=hv
  exact .inr ⟨g,cap,cur,rfl,hb,hg,by omega,h2,h3,by rw [← h4,List.take_take,Nat.min_eq_left hmn]⟩
def Passed (base:Nat) (w:World) (a:Nat) (v:Value) (st' : List (Nat × Nat)) (w' : World):Prop:=∃ v', TrailAt base w' a v' st' ∧ Kept (TFoot a v) w w' ∧ ∀ k,TFoot a v' k→TFoot a v k∨w.heap.size≤k
structure Popped (base:Nat) (w:World) (a:Nat) (v0:Value) (st0:List (Nat × Nat)) (wr:World) (v:Value) (st:List (Nat × Nat)):Prop where
 tr:TrailAt base wr a v st
 k:Kept (TFoot a v0) w wr
 f:∀ k,TFoot a v k→TFoot a v0 k
 eq:Hid (bump st=bump st0)
theorem Popped.step {base:Nat} {w:World} {a g cap:Nat} {v0:Value} {st0:List (Nat × Nat)} {wr:World} {j n:Nat} {r:List (Nat × Nat)} (h:Popped base w a v0 st0 wr (.slice (some ⟨g,0,none⟩) (r.length+1) cap) ((j,n) :: r)) :
  (j+1<n→TrailAt base (wr.setCell ⟨g,r.length * 2,none⟩ (.int .i64 ((j:Int)+1))) a (.slice (some ⟨g,0,none⟩) (r.length+1) cap) (bump st0)∧Kept (TFoot a v0) w (wr.setCell ⟨g,r.length * 2,none⟩ (.int .i64 ((j:Int)+1)))∧∀ k,TFoot a (.slice (some ⟨g,0,none⟩) (r.length+1) cap) k→TFoot a v0 k) ∧
  (¬ j+1<n→Popped base w a v0 st0 ((wr.setCell ⟨g,r.length * 2,none⟩ (.int .i64 ((j:Int)+1))).setCell ⟨a,0,none⟩ (.slice (some ⟨g,0,none⟩) r.length cap)) (.slice (some ⟨g,0,none⟩) r.length cap) r):=by
 have hga:g≠a:=fun e=>h.tr.ap (by rw [e];rfl)
 have k1:Kept (TFoot a v0) w (wr.setCell ⟨g,r.length * 2,none⟩ (.int .i64 ((j:Int)+1))):=h.k.setCell (p:=⟨g,r.length * 2,none⟩) (fun _=>h.f g (.inr rfl)) _
 have hrow:=h.tr.row
 have hx:turnCells ((j,n) :: r).reverse=turnCells r.reverse ++ [.int .i64 (j:Int),.int .i64 (n:Int)]:=by
  rw [List.reverse_cons,turnCells_append];simp [turnCells]
 have hl2:(turnCells r.reverse).length=r.length * 2:=by rw [turnCells_length,List.length_reverse]
 rw [hx] at hrow
 have hs:=(hrow.stored (r.length * 2) (.int .i64 ((j:Int)+1))).1
 have hset:(turnCells r.reverse ++ [Value.int .i64 (j:Int),.int .i64 (n:Int)]).set (r.length * 2) (.int .i64 ((j:Int)+1))=turnCells r.reverse ++ [.int .i64 ((j:Int)+1),.int .i64 (n:Int)]:=by
  rw [← hl2,List.set_append_right _ _ (Nat.le_refl _)];simp
 rw [hset] at hs
 have hb:(wr.setCell ⟨g,r.length * 2,none⟩ (.int .i64 ((j:Int)+1))).heap[a]? = some (.cells #[.slice (some ⟨g,0,none⟩) (r.length+1) cap] 251 (0,0)):=by
  rw [Below.heap_setCell _ _ _ _ (by simpa using (Ne.symm hga))]
  exact h.tr.blk
 have hfr:Fine r:=fun y hy=>h.tr.fine y (by simp [hy])
 have hlr:r.length≤2000:=by have:=h.tr.len;simp at this;omega
 have hf0:=h.tr.fine (j,n) (by simp)
 constructor
 ·intro hj
  have e1:bump st0=(j+1,n) :: r:=by rw [← h.eq.out,bump,if_pos hj]
  rw [e1]
  refine ⟨⟨hb,?_,h.tr.ap,?_,by simpa using h.tr.len⟩,k1,h.f⟩
  ·have:turnCells ((j+1,n) :: r).reverse=turnCells r.reverse ++ [.int .i64 ((j:Int)+1),.int .i64 (n:Int)]:=by
    rw [List.reverse_cons,turnCells_append];simp [turnCells]
   rw [this];exact hs
  ·intro y hy
   rcases List.mem_cons.1 hy with rfl | hy
   ·exact ⟨hj,hf0.2⟩
   ·exact hfr y hy
 ·intro hj
  have e1:bump r=bump st0:=by rw [← h.eq.out,bump,if_neg hj]
  have ht:=row_take (m:=r.length) hs (by omega)
  rw [List.take_left' (by rw [hl2])] at ht
  have k2:Kept (fun k=>k=a) (wr.setCell ⟨g,r.length * 2,none⟩ (.int .i64 ((j:Int)+1))) ((wr.setCell ⟨g,r.length * 2,none⟩ (.int .i64 ((j:Int)+1))).setCell ⟨a,0,none⟩ (.slice (some ⟨g,0,none⟩) r.length cap)):=Kept.setCell (S:=fun k=>k=a) (p:=⟨a,0,none⟩) (Kept.refl _ _) (fun _=>rfl) _
  refine ⟨⟨?_,?_,by simpa [Value.ownBlock] using hga,hfr,hlr⟩,k1.setCell (p:=⟨a,0,none⟩) (fun _=>.inl rfl) _,fun k hk=>h.f k hk,e1⟩
  ·rw [setAt hb];rfl
  ·exact k2.row ht (fun k e e' => by simp [Value.ownBlock] at e;omega)
theorem Popped.cells {base:Nat} {w:World} {a:Nat} {v0 v:Value} {st0:List (Nat × Nat)} {wr:World} {j n:Nat} {r:List (Nat × Nat)} (h:Popped base w a v0 st0 wr v ((j,n) :: r)) :
  ∃ g cap,v=.slice (some ⟨g,0,none⟩) (r.length+1) cap∧g≠a∧wr.cell? ⟨a,0,none⟩=some v∧wr.frozen? ⟨a,0,none⟩=false∧wr.cell? ⟨g,r.length * 2,none⟩=some (.int .i64 (j:Int))∧wr.cell? ⟨g,r.length * 2+1,none⟩=some (.int .i64 (n:Int))∧wr.frozen? ⟨g,r.length * 2,none⟩=false∧g<wr.heap.size:=by
 obtain ⟨g,cap,hv,_,hlt⟩:=h.tr.row.form (by simp)
 subst hv
 have hga:g≠a:=fun e=>h.tr.ap (by rw [e];rfl)
 have hrow:=h.tr.row
 have hi:r.length<((j,n) :: r).reverse.length:=by simp
 obtain ⟨c1,c2⟩:=turnCells_at hi
 have e:((j,n) :: r).reverse[r.length]=(j,n):=by simp
 rw [e] at c1 c2
 refine ⟨g,cap,rfl,hga,cellAt h.tr.blk 0,frozenAt h.tr.blk 0,?_,?_,hrow.frozenAt _,hlt⟩
 ·rw [hrow.cellAt _ (by simp)];exact c1
 ·rw [hrow.cellAt _ (by simp;omega)];exact c2
theorem Passed.same {base:Nat} {w w' w'' : World} {a:Nat} {v:Value} {st:List (Nat × Nat)} (h:Passed base w a v st w') (k:Same0 w' w''):Passed base w a v st w'' := by
 obtain ⟨v', h1,h2,h3⟩:=h
 exact ⟨v', h1.same k,h2.trans k (fun _ _ f=>f.elim),h3⟩
theorem Popped.same {base:Nat} {w:World} {a:Nat} {v0 v:Value} {st0 st:List (Nat × Nat)} {wr wr' : World} (h:Popped base w a v0 st0 wr v st) (k:Same0 wr wr'):Popped base w a v0 st0 wr' v st:=
 ⟨h.tr.same k,h.k.trans k (fun _ _ f=>f.elim),h.f,h.eq⟩
theorem push_end {base:Nat} {w w1:World} {a n gg cap:Nat} {v:Value} {st:List (Nat × Nat)} (h:TrailAt base w a v st) (hb:base≤w.heap.size) (hn:0<n) (hn6:n≤6) (hl:st.length<2000)
  (hown:w1.ownsRow base 283 2 (.slice (some ⟨gg,0,none⟩) (st.length+1) cap) (st.length+1) (turnCells st.reverse ++ [.int .i64 0,.int .i64 (n:Int)]))
  (hgrow:(w.alloc (.cells #[.int .i64 0,.int .i64 (n:Int)] 283)).grownBy w1 v.ownBlock) (hat:v.ownBlock=some gg∨gg=w.heap.size+1) :
  (w1.heap[a]? = some (.cells #[v] 251 (0,0)))∧Passed base w a v (pass st n) (w1.setCell ⟨a,0,none⟩ (.slice (some ⟨gg,0,none⟩) (st.length+1) cap)):=by
 have la:=lt_of_at h.blk
 have k1:Kept (fun k=>v.ownBlock=some k) w w1:=Kept.grown (Kept.alloc (Kept.refl _ w) _) hgrow (fun _ e _=>e)
 have hb1:=k1.at h.blk h.ap
 have hga:gg≠a:=by
  rcases hat with e | e
  ·intro e'; exact h.ap (by rw [e,e'])
  ·omega
 have k2:Kept (TFoot a v) w (w1.setCell ⟨a,0,none⟩ (.slice (some ⟨gg,0,none⟩) (st.length+1) cap)):=(k1.mono (fun _ _ e=>.inr e)).setCell (p:=⟨a,0,none⟩) (fun _=>.inl rfl) _
 have k3:Kept (fun k=>k=a) w1 (w1.setCell ⟨a,0,none⟩ (.slice (some ⟨gg,0,none⟩) (st.length+1) cap)):=Kept.setCell (S:=fun k=>k=a) (p:=⟨a,0,none⟩) (Kept.refl _ _) (fun _=>rfl) _
 have e1:pass st n=(0,n) :: st:=by rw [pass,if_pos hn]
 refine ⟨hb1,.slice (some ⟨gg,0,none⟩) (st.length+1) cap,⟨?_,?_,by simpa [Value.ownBlock] using hga,pass_fine h.fine hn6,?_⟩,k2,?_⟩
 ·rw [setAt hb1];rfl
 ·rw [e1]
  have:turnCells ((0,n) :: st).reverse=turnCells st.reverse ++ [.int .i64 0,.int .i64 (n:Int)]:=by
   rw [List.reverse_cons,turnCells_append];simp [turnCells]
  rw [this]
  exact k3.row hown (fun k e e' => by simp [Value.ownBlock] at e;omega)
 ·rw [e1];simp;omega
 ·intro k hk
  rcases hk with e | e
  ·exact .inl (.inl e)
  ·simp [Value.ownBlock] at e
   subst e
   rcases hat with e | e
   ·exact .inl (.inr e)
   ·right;omega
set_option maxHeartbeats 4000000 in
theorem pass_any {base:Nat} {w:World} {a:Nat} {v:Value} {st:List (Nat × Nat)} (h:TrailAt base w a v st) (hb:base≤w.heap.size) (n:Nat) (hn6:n≤6) (hl:st.length<2000) :
  Calls Tryz.prog 160 #[.pointer (some ⟨a,0,none⟩),.int .i64 (n:Int)] w fun e w' => (∃ x,e=.returned x)∧Passed base w a v (pass st n) w' := by
 obtain ⟨vo,vcap,rfl⟩:=row_shape h.row
 have c0:=cellAt h.blk 0
 have f0:=frozenAt h.blk 0
 simp only [List.getElem?_toArray,List.getElem?_cons_zero] at c0
 by_cases hn:0<n
 ·obtain ⟨i0,hi0,hz0,hz1,hz2⟩:=info_parts info_turn
  have hn1:st.length+1≤maxLen:=by unfold maxLen;omega
  have hn2:(st.length+1) * 16≤140737488355328:=by omega
  have hb' : base≤(w.alloc (.cells #[.int .i64 0,.int .i64 (n:Int)] 283)).heap.size:=by simp;omega
  have hnn:(0:Int)<(n:Int):=by omega
  have PE:=fun gg cap w1 hown hgrow hat=>push_end (gg:=gg) (cap:=cap) (w1:=w1) h hb hn hn6 hl hown hgrow hat
  go_enter Tryz.func160,Tryz.ntmps160
  go_wp2_with (first | (at_builtin;refine wpList_append_lies _ rfl _ _ 251 rfl base 283 i0 _ 2 16 Tryz.underlying251 hi0 hz0 hz1 hz2 rfl (by omega) (.slice vo st.length vcap) st.length (turnCells st.reverse) rfl (h.row.alloc _) ⟨w.heap.size,0,none⟩ 1 1 [.int .i64 0,.int .i64 (n:Int)] rfl rfl (World.news_of_block (cs:=#[.int .i64 0,.int .i64 (n:Int)]) (t:=283) (fr:=(0,0)) (heap_alloc_new w _)) (by simp [Value.oneCell']) (by omega) hn1 hn2 hb' (w.heap.size+1) (by simp) ?_;intro gg cap w1 hown hgrow hat hlt;obtain ⟨b1,hP⟩:=PE gg cap w1 hown hgrow hat;have k0:=cellAt b1 0;have k1:=frozenAt b1 0;simp only [List.getElem?_toArray,List.getElem?_cons_zero] at k0))
  go_returns
  exact ⟨⟨_,rfl⟩,hP⟩
 ·obtain rfl:n=0:=by omega
  have e0:Hid (pass st 0=bump st):=by show _=_;simp [pass]
  have P0:Popped base w a (.slice vo st.length vcap) st w (.slice vo st.length vcap) st:=⟨h,Kept.refl _ _,fun k hk=>hk,rfl⟩
  clear h
  go_enter Tryz.func160,Tryz.ntmps160
  go_wp2
  go_loopw [4] (fun tp wr=>∃ v' st', tp=.int .i64 ((st'.length:Int)-1)∧Popped base w a (.slice vo st.length vcap) st wr v' st') (fun tp _=>(intOf tp+1).toNat)
  case atStart=>exact ⟨_,st,rfl,P0⟩
  case round=>
   obtain ⟨v', st', rfl,hP⟩:=hrel
   cases st' with
   | nil=>
    have e1:bump st=[]:=by have:=hP.eq.out;rw [← this];rfl
    have fin:Passed base w a (.slice vo st.length vcap) (pass st 0) wr:=by
     rw [e0.out,e1]
     exact ⟨v', hP.tr,hP.k,fun k hk=>.inl (hP.f k hk)⟩
    clear hP e1
    go_wp2
    go_returns
    exact ⟨⟨_,rfl⟩,fin⟩
   | cons x r=>
    obtain ⟨j,n⟩:=x
    obtain ⟨g,cap,rfl,hga,q0,q1,q2,q3,q4,q5⟩:=hP.cells
    have hjn:=hP.tr.fine (j,n) (by simp)
    have hrl:=hP.tr.len
    obtain ⟨s1,s2⟩:=hP.step
    have hl1:(((j,n) :: r).length:Int)-1=(r.length:Int):=by simp
    rw [hl1]
    have i1:(0:Int)≤(r.length:Int):=by omega
    have i2:(r.length:Int)<((r.length+1:Nat):Int):=by omega
    simp only at hjn
    simp at hrl
    by_cases hj:j+1<n
    ·obtain ⟨t1,t2,t3⟩:=s1 hj
     have fin:Passed base w a (.slice vo st.length vcap) (pass st 0) (wr.setCell ⟨g,r.length * 2,none⟩ (.int .i64 ((j:Int)+1))):=by
      rw [e0.out]
      exact ⟨_,t1,t2,fun k hk=>.inl (t3 k hk)⟩
     have hji:(j:Int)+1<(n:Int):=by omega
     clear s1 s2 hP t1 t2 t3
     go_wp2
     go_quiet (fail)
     go_wp2
     go_returns
     exact ⟨⟨_,rfl⟩,fin.same ((Kept.refl _ _).drewN nq)⟩
    ·have hP2:=s2 hj
     have hji:¬ (j:Int)+1<(n:Int):=by omega
     have i3:(r.length:Int)≤(cap:Int):=by
      rcases hP.tr.row.2 with ⟨e,_⟩ | ⟨_,_,_,hv,_,_,hle,_⟩
      ·cases e
      ·simp only [Value.slice.injEq] at hv
       have:=hv.2.2
       simp at hle
       omega
     clear s1 s2 hP
     go_wp2
     go_quiet (fail)
     go_wp2
     have hP3:=hP2.same ((Kept.refl _ _).drewN nq)
     go_roundw
     case rel=>first | exact ⟨_,r,by go_num,hP3⟩ | ((repeat apply Exists.intro);exact ⟨⟨_,r,by go_num,hP3⟩,rfl⟩)
     case measure=>simp [intOf]
def firsts (st:List (Nat × Nat)):List Int:=ofN (st.reverse.map Prod.fst)
theorem firsts_length (st:List (Nat × Nat)):(firsts st).length=st.length:=by simp [firsts,ofN]
theorem way_length (L:List Sym) (t:List Int) (k:Nat) (hk:k≤t.length):(way L t k).length≤k:=by
 induction k with
 | zero=>simp [way,run]
 | succ k ih=>
  rw [way_succ (by omega)]
  have:=pass_length (way L t k) (arN L (t[k]'(by omega)))
  have:=ih (by omega)
  omega
def WayAt (w:World) (a:Nat) (st:List (Nat × Nat)) (wr:World):Prop:=∃ v,TrailAt w.heap.size wr a v st∧Same0 w wr∧w.heap.size≤a∧∀ k,v.ownBlock=some k→w.heap.size≤k
theorem WayAt.start {w w1:World} (k:Same0 w w1):WayAt w w1.heap.size [] (w1.alloc (.cells #[.slice none 0 0] 251)):=
 ⟨.slice none 0 0,⟨heap_alloc_new w1 _,World.ownsRow_nil _ _ _ _,by simp [Value.ownBlock],fun x hx=>by simp at hx,by simp⟩,k.alloc _,k.size,fun k e=>by simp [Value.ownBlock] at e⟩
theorem WayAt.same {w wr wr' : World} {a:Nat} {st:List (Nat × Nat)} (h:WayAt w a st wr) (k:Same0 wr wr'):WayAt w a st wr' := by
 obtain ⟨v,h1,h2,h3,h4⟩:=h
 exact ⟨v,h1.same k,h2.trans' k,h3,h4⟩
theorem WayAt.pass {w wr:World} {a:Nat} {st:List (Nat × Nat)} (h:WayAt w a st wr) (n:Nat) (hn:n≤6) (hl:st.length<2000) :
  Calls Tryz.prog 160 #[.pointer (some ⟨a,0,none⟩),.int .i64 (n:Int)] wr fun e w' => (∃ x,e=.returned x)∧WayAt w a (Proofs.YtoajbpmgoklflaaGreat.pass st n) w' := by
 obtain ⟨v,h1,h2,h3,h4⟩:=h
 refine (pass_any h1 h2.size n hn hl).mono ?_
 rintro e w' ⟨hx,v', t1,t2,t3⟩
 have hf:∀ k,TFoot a v k→w.heap.size≤k:=fun k hk=>hk.elim (fun e=>by omega) (h4 k)
 refine ⟨hx,v', t1,Kept.trans h2 t2 (fun i hi e=>by have:=hf i e;omega),h3,fun k e=>?_⟩
 rcases t3 k (.inr e) with e1 | e1
 ·exact hf k e1
 ·have:=h2.size;omega
theorem WayAt.cell {w wr:World} {a:Nat} {st:List (Nat × Nat)} (h:WayAt w a st wr):∃ vo vcap,wr.cell? ⟨a,0,none⟩=some (.slice vo st.length vcap)∧wr.ownsRow w.heap.size 283 2 (.slice vo st.length vcap) st.length (turnCells st.reverse):=by
 obtain ⟨v,h1,h2,h3,h4⟩:=h
 obtain ⟨vo,vcap,rfl⟩:=row_shape h1.row
 exact ⟨vo,vcap,cellAt h1.blk 0,h1.row⟩
end Go.Proofs.YtoajbpmgoklflaaGreat
namespace Go.Proofs.YtoajbpmgoklflaaGreat
set_option linter.unusedVariables false
def vpS (L:List Sym):List (Nat × Nat)→List Int→List (List Int)
 | _,[]=>[]
 | st,x :: r=>(if x<0 then [firsts st] else [])++vpS L (pass st (arN L x)) r
theorem vpS_append (L:List Sym):∀ (a b:List Int) (st:List (Nat × Nat)),vpS L st (a++b)=vpS L st a++vpS L (run L st a) b
 | [],b,st=>rfl
 | x :: a,b,st=>by
  rw [List.cons_append,vpS,vpS,vpS_append L a b,List.append_assoc]
  rfl
def freshN (L:List Sym) (c:Nat):List Int:=(c:Int) :: List.replicate (arN L (c:Int)) (-1)
theorem firsts_snoc (i a:Nat) (st:List (Nat × Nat)):firsts ((i,a) :: st)=firsts st ++ [(i:Int)]:=by simp [firsts,ofN]
theorem arN_minus (L:List Sym):arN L (-1)=0:=arN_neg (by omega)
theorem vars_run (L:List Sym):∀ (k j a:Nat) (st:List (Nat × Nat)),j+(k+1)=a →
  vpS L ((j,a) :: st) (List.replicate (k+1) (-1))=(List.range' j (k+1)).map (fun (i:Nat)=>firsts st ++ [(i:Int)])∧run L ((j,a) :: st) (List.replicate (k+1) (-1))=bump st
 | 0,j,a,st,h=>by
  have e:bump ((j,a) :: st)=bump st:=by rw [bump,if_neg (by omega)]
  refine ⟨?_,?_⟩
  ·simp [vpS,firsts_snoc]
  ·show pass ((j,a) :: st) (arN L (-1))=_
   rw [arN_minus,pass,if_neg (by omega),e]
 | k+1,j,a,st,h=>by
  have e:pass ((j,a) :: st) (arN L (-1))=(j+1,a) :: st:=by rw [arN_minus,pass,if_neg (by omega),bump,if_pos (by omega)]
  obtain ⟨h1,h2⟩:=vars_run L k (j+1) a st (by omega)
  refine ⟨?_,?_⟩
  ·rw [List.replicate_succ,vpS,e,h1,if_pos (by omega),firsts_snoc,List.range'_succ,List.map_cons]
   rfl
  ·rw [List.replicate_succ]
   show run L (pass ((j,a) :: st) (arN L (-1))) _=_
   rw [e,h2]
theorem vp_fresh (L:List Sym) (c:Nat) (st:List (Nat × Nat)):vpS L st (freshN L c)=(List.range (arN L (c:Int))).map (fun (i:Nat)=>firsts st ++ [(i:Int)])∧run L st (freshN L c)=bump st:=by
 have e0:vpS L st (freshN L c)=vpS L (pass st (arN L (c:Int))) (List.replicate (arN L (c:Int)) (-1)):=by
  rw [freshN,vpS,if_neg (by omega),List.nil_append]
 have e1:run L st (freshN L c)=run L (pass st (arN L (c:Int))) (List.replicate (arN L (c:Int)) (-1)):=rfl
 rw [e0,e1]
 generalize arN L (c:Int)=k
 cases k with
 | zero=>exact ⟨rfl,rfl⟩
 | succ k=>
  have e:pass st (k+1)=(0,k+1) :: st:=by rw [pass,if_pos (by omega)]
  rw [e,List.range_eq_range']
  exact vars_run L k 0 (k+1) st (by omega)
theorem fresh_need (L:List Sym) (c:Nat):IsT L (freshN L c):=by
 unfold IsT freshN
 rw [need,Nat.zero_add]
 generalize arN L (c:Int)=k
 induction k with
 | zero=>rfl
 | succ k ih=>rw [List.replicate_succ,need,arN_minus,Nat.add_zero];exact ih
theorem fresh_len (L:List Sym) (c:Nat):(freshN L c).length=arN L (c:Int)+1:=by simp [freshN]
theorem end_var {L:List Sym} {t:List Int} {p:Nat} (hp:p<t.length) (hv:t[p]<0):endN L t p=p+1:=by
 refine endN_of ?_
 rw [List.drop_eq_getElem_cons hp,scan,arN_neg (by omega),Nat.zero_add,scan_zero]
 rfl
def colN (L:List Sym) (t:List Int) (p:Nat):Nat:=(vpS L [] (t.take p)).length
theorem vp_split {L:List Sym} {t:List Int} {p:Nat} (hp:p<t.length) (hv:t[p]<0):vpS L [] t=vpS L [] (t.take p) ++ [firsts (way L t p)]++vpS L (bump (way L t p)) (t.drop (p+1)):=by
 have e:t=t.take p++(t[p] :: t.drop (p+1)):=by rw [List.getElem_cons_drop,List.take_append_drop]
 have e2:vpS L [] t=vpS L [] (t.take p++(t[p] :: t.drop (p+1))):=by rw [← e]
 rw [e2,vpS_append,vpS,if_pos hv,arN_neg (by omega),pass,if_neg (by omega),List.append_assoc]
 rfl
theorem col_lt {L:List Sym} {t:List Int} {p:Nat} (hp:p<t.length) (hv:t[p]<0):colN L t p<(vpS L [] t).length:=by
 rw [vp_split hp hv];unfold colN;simp
theorem col_get {L:List Sym} {t:List Int} {p:Nat} (hp:p<t.length) (hv:t[p]<0):(vpS L [] t)[colN L t p]? = some (firsts (way L t p)):=by
 rw [vp_split hp hv];unfold colN;simp
theorem col_next {L:List Sym} {t:List Int} {p:Nat} (hp:p<t.length):colN L t (p+1)=colN L t p+(if t[p]<0 then 1 else 0):=by
 unfold colN
 rw [List.take_add_one,List.getElem?_eq_getElem hp,vpS_append,List.length_append]
 congr 1
 show (vpS L _ [t[p]]).length=_
 rw [vpS]
 split <;> simp [vpS]
theorem col_all {L:List Sym} {t:List Int}:colN L t t.length=(vpS L [] t).length:=by unfold colN;rw [List.take_length]
theorem vp_kid {L:List Sym} {t:List Int} {p:Nat} (hp:p<t.length) (hv:t[p]<0) (c:Nat):vpS L [] (putN L t p (freshN L c))=kidP L (vpS L [] t) (colN L t p) c:=by
 obtain ⟨f1,f2⟩:=vp_fresh L c (way L t p)
 have hg:(vpS L [] t).getD (colN L t p) []=firsts (way L t p):=by rw [List.getD,col_get hp hv];rfl
 unfold putN kidP repl
 rw [hg,end_var hp hv,vpS_append,vpS_append]
 have e1:run L [] (t.take p)=way L t p:=rfl
 have e2:run L [] (t.take p++freshN L c)=bump (way L t p):=by rw [run_append,e1,f2]
 rw [e1,e2,f1]
 have hs:=vp_split (L:=L) hp hv
 have t1:(vpS L [] t).take (colN L t p)=vpS L [] (t.take p):=by rw [hs];unfold colN;simp
 have t2:(vpS L [] t).drop (colN L t p+1)=vpS L (bump (way L t p)) (t.drop (p+1)):=by
  rw [hs];unfold colN;rw [List.append_assoc,List.drop_append,List.drop_eq_nil_of_le (by omega),Nat.add_sub_cancel_left];simp
 rw [t1,t2]
theorem put_len {L:List Sym} {t:List Int} {p:Nat} (hp:p<t.length) (hv:t[p]<0) (c:Nat):(putN L t p (freshN L c)).length=t.length+arN L (c:Int):=by
 unfold putN
 rw [end_var hp hv]
 simp [fresh_len];omega
structure DocN (L:List Sym) (R:List Ru) (t:List Int) (rows:List Rw):Prop where
 isT:IsT L t
 row:∀ x∈rows,∃ j,∃ h:j<R.length,x.1=(j:Int)∧x.2.1=R[j].1
 led:∀ x∈rows,Led8 L x.2.1 (vpS L [] t) x.2.2
 len:∀ x∈rows,t.length+wtL L x.2.1 x.2.2=x.2.1.length+(vpS L [] t).length
theorem wt_count {L:List Sym} {t:List Int} (hT:IsT L t):∀ (ps:List Nat),(∀ p∈ps,p<t.length)→ps.length≤wtL L t ps
 | [],_=>by simp [wtL,sumN]
 | p :: r,hp=>by
  have:=wt_count hT r (fun q hq=>hp q (List.mem_cons_of_mem _ hq))
  have e:=endN_le hT (hp p (List.mem_cons_self ..))
  show r.length+1≤(endN L t p-p)+wtL L t r
  omega
theorem DocN.small {L:List Sym} {R:List Ru} {t:List Int} {rows:List Rw} {n:Nat} (h:DocN L R t rows) (hn:NdOk L n (vpS L [] t) rows) (hne:rows≠[]):t.length≤2000:=by
 obtain ⟨x,hx⟩:=List.exists_mem_of_ne_nil _ hne
 obtain ⟨k1,k2,k3,k4⟩:=hn.ok x hx
 have hz:=checkE_zero.1 k1
 have:=wt_count hz.2.2 _ k3
 have:=h.len x hx
 have:=hz.1
 omega
theorem DocN.kid {L:List Sym} {R:List Ru} {t:List Int} {rows:List Rw} {n:Nat} (h:DocN L R t rows) (hn:NdOk L n (vpS L [] t) rows) {p:Nat} (hp:p<t.length) (hv:t[p]<0) (c:Nat):DocN L R (putN L t p (freshN L c)) ((havR rows (colN L t p) (c:Int)).map (kidX L (colN L t p))):=by
 have hc:=col_lt (L:=L) hp hv
 have key:∀ x∈havR rows (colN L t p) (c:Int),x∈rows∧∃ h1:colN L t p<x.2.2.length,∃ h2:x.2.2[colN L t p]<x.2.1.length,x.2.1[x.2.2[colN L t p]]=(c:Int)∧(argsN L x.2.1 x.2.2[colN L t p]).length=arN L (c:Int):=fun x hx=>by
  obtain ⟨a,b⟩:=havR_mem hx
  obtain ⟨_,r2,r3,_⟩:=hn.ok x a
  have h1:colN L t p<x.2.2.length:=by omega
  have h2:=r3 _ (List.getElem_mem h1)
  rw [numR_eq h1 h2] at b
  exact ⟨a,h1,h2,b,by rw [argsN_eq h2,starts_length,b]⟩
 refine ⟨put_need h.isT hp (fresh_need L c),?_,?_,?_⟩
 ·intro y hy
  obtain ⟨x,hx,rfl⟩:=List.mem_map.1 hy
  exact h.row x (key x hx).1
 ·intro y hy
  obtain ⟨x,hx,rfl⟩:=List.mem_map.1 hy
  obtain ⟨a,h1,h2,b,d⟩:=key x hx
  rw [vp_kid hp hv]
  have hled:=h.led x a
  show Led8 L x.2.1 (kidP L (vpS L [] t) (colN L t p) c) (repl x.2.2 (colN L t p) (argsN L x.2.1 (x.2.2.getD (colN L t p) 0)))
  rw [getD_lt h1]
  unfold kidP repl
  refine (Led8.append (hled.take _) ?_).append (hled.drop _)
  rw [getD_lt hc,← d,List.range_eq_range']
  exact led_args (hled.at hc h1) _ 0 (fun i hi=>by rw [Nat.zero_add];exact List.getElem?_eq_getElem hi)
 ·intro y hy
  obtain ⟨x,hx,rfl⟩:=List.mem_map.1 hy
  obtain ⟨a,h1,h2,b,d⟩:=key x hx
  obtain ⟨k1,_,k3,_⟩:=hn.ok x a
  have hT:=(checkE_zero.1 k1).2.2
  obtain ⟨a1,_⟩:=args_wt hT h2
  have hl:=h.len x a
  have hw:=wtL_repl (L:=L) (t:=x.2.1) h1 (argsN L x.2.1 x.2.2[colN L t p])
  rw [vp_kid hp hv,put_len hp hv]
  show _+wtL L x.2.1 (repl x.2.2 (colN L t p) (argsN L x.2.1 (x.2.2.getD (colN L t p) 0)))=x.2.1.length+(kidP L (vpS L [] t) (colN L t p) c).length
  rw [getD_lt h1]
  have e:(kidP L (vpS L [] t) (colN L t p) c).length=(vpS L [] t).length-1+arN L (c:Int):=by
   unfold kidP;rw [repl_length hc];simp
  rw [e]
  omega
theorem vp_root (L:List Sym) (s:Nat):vpS L [] (freshN L s)=rootP L s:=by
 rw [(vp_fresh L s []).1]
 simp [rootP,kidP,repl,firsts,ofN]
theorem doc_root {L:List Sym} {R:List Ru} (hok:∀ x∈R,checkE L x.1=0∧checkE L x.2=0) (s:Nat):DocN L R (freshN L s) (rootR L R s):=by
 have key:∀ y∈rootR L R s,∃ j,∃ h:j<R.length,y=((j:Int),R[j].1,argsN L R[j].1 0)∧checkE L R[j].1=0∧0<R[j].1.length∧R[j].1.getD 0 0=(s:Int):=by
  intro y hy
  obtain ⟨x,hx,rfl⟩:=List.mem_map.1 hy
  obtain ⟨j,hj,rfl,h0,hp,hn⟩:=rows_fact hok hx
  refine ⟨j,hj,by simp [kidX,repl],h0,hp,?_⟩
  rw [numR_eq (by simp) (by simpa using hp)] at hn
  rw [getD_lt hp]
  simpa using hn
 refine ⟨fresh_need L s,?_,?_,?_⟩
 ·intro y hy
  obtain ⟨j,hj,rfl,_⟩:=key y hy
  exact ⟨j,hj,rfl,rfl⟩
 ·intro y hy
  obtain ⟨j,hj,rfl,h0,hp,hs⟩:=key y hy
  rw [(vp_fresh L s []).1]
  have hl:(argsN L R[j].1 0).length=arN L (s:Int):=by rw [argsN_eq hp,starts_length];rw [getD_lt hp] at hs;rw [hs]
  rw [← hl,List.range_eq_range']
  exact led_args (q:=0) (p:=firsts []) rfl _ 0 (fun i hi=>by rw [Nat.zero_add];exact List.getElem?_eq_getElem hi)
 ·intro y hy
  obtain ⟨j,hj,rfl,h0,hp,hs⟩:=key y hy
  have hT:=(checkE_zero.1 h0).2.2
  obtain ⟨a1,_⟩:=args_wt hT hp
  have e0:=endN_zero hT
  rw [(vp_fresh L s []).1,fresh_len]
  simp only [List.length_map,List.length_range]
  show _+wtL L R[j].1 (argsN L R[j].1 0)=_
  omega
end Go.Proofs.YtoajbpmgoklflaaGreat
namespace Go.Proofs.YtoajbpmgoklflaaGreat
set_option linter.unusedVariables false
open Go.RowKit
attribute [local go_sem ↓] Go.wp_at_zero Go.wp_at_succ
def leadR (L:List Sym) (t path:List Int):Int:=match leads L t 0 path with | some q=>(q:Int) | none=>-1
theorem Row.get {base:Nat} {w:World} {v:Value} {xs:List Int} (h:Row base w v xs) {i:Nat} (hi:i<xs.length):∃ g cap,v=.slice (some ⟨g,0,none⟩) xs.length cap∧g<w.heap.size∧w.cell? ⟨g,i,none⟩=some (.int .i64 xs[i]):=by
 obtain ⟨g,cap,hv,_,hlt⟩:=h.form (by omega)
 subst hv
 exact ⟨g,cap,rfl,hlt,(h.cellAt i (by omega)).trans (iv_get hi)⟩
set_option maxHeartbeats 4000000 in
theorem rfrom_any {n:Nat} {w:World} {rv:Value} {L:List Sym} (h:Rl n w rv L) {ao po:Option Addr} {cap pcap:Nat} {t path:List Int} (ht:IntsAt w ao t) (hm:t.length≤2000) (hT:IsT L t) (hp:IntsAt w po path) (hpm:path.length≤maxLen) :
  Calls Tryz.prog 25 #[rv,.slice ao t.length cap,.int .i64 0,.slice po path.length pcap] w fun e w' => e=.returned (.int .i64 (leadR L t path))∧Same0 w w' := by
 unfold maxLen at hpm
 have c1:∀ w1 q,Same0 w w1→q<t.length→Calls Tryz.prog 66 #[rv,.slice ao t.length cap,.int .i64 (q:Int)] w1 fun e w' => ∃ v,e=.returned v∧Row w1.heap.size w' v (ofN (argsN L t q))∧Same0 w1 w' := fun w1 q hk hq=>rargs_any (cap:=cap) (h.same hk) (ht.same hk) hm hT q hq
 obtain ⟨ro,rcap,rfl⟩:=row_shape h.1
 go_enter Tryz.func25,Tryz.ntmps25
 go_wp2
 go_loopw [2,9] (fun at' i wr=>∃ k q:Nat,k≤path.length∧i=.int .i64 (k:Int)∧at' = .int .i64 (q:Int)∧q<t.length∧Hid (leads L t 0 path=leads L t q (path.drop k))∧Same0 w wr) (fun _ i _=>path.length-(intOf i).toNat)
 case atStart=>exact ⟨0,0,Nat.zero_le _,rfl,rfl,isT_pos hT,by simp [Hid],Kept.refl _ _⟩
 case round=>
  obtain ⟨k,q,hk,rfl,rfl,hq,HL,hs⟩:=hrel
  by_cases hlt:k<path.length
  ·have cA:=c1 _ _ hs hq
   obtain ⟨pb,poff,rfl,hpb,hpc⟩:=(hp.same hs).get hlt
   have i1:(0:Int)≤(k:Int):=by omega
   have i2:(k:Int)<(path.length:Int):=by omega
   have hlen:(ofN (argsN L t q)).length=arN L t[q]:=by rw [argsN_eq hq];simp [ofN,starts_length]
   clear c1
   go_wp2_with fail
   refine cA.mono ?_
   rintro e w2 ⟨v,rfl,hr,hk2⟩
   have hpc2:w2.cell? ⟨pb,poff+k,none⟩=some (.int .i64 path[k]):=(hk2.cell (p:=⟨pb,poff+k,none⟩) hpb (fun f=>f)).trans hpc
   have hs2:=hs.trans' hk2
   clear cA hpc
   by_cases hn0:path[k]<0
   ·have H:Hid (leadR L t path = -1):=by
     have:=leads_bad HL.out hlt hq (.inl hn0)
     simp [leadR,this,Hid]
    obtain ⟨vo,vcap,rfl⟩:=row_shape hr
    go_wp2
    go_ret
    exact ⟨ret_int H.out.symm,hs2⟩
   ·by_cases hna:(arN L t[q]:Int)≤path[k]
    ·have H:Hid (leadR L t path = -1):=by
      have:=leads_bad HL.out hlt hq (.inr hna)
      simp [leadR,this,Hid]
     obtain ⟨vo,vcap,rfl⟩:=row_shape hr
     have hna' : ((ofN (argsN L t q)).length:Int)≤path[k]:=by omega
     go_wp2
     go_ret
     exact ⟨ret_int H.out.symm,hs2⟩
    ·obtain ⟨i,hi⟩:∃ i:Nat,path[k]=(i:Int):=⟨path[k].toNat,by omega⟩
     have hia:i<arN L t[q]:=by omega
     have HN:Hid (leads L t 0 path=leads L t (past L t i (q+1)) (path.drop (k+1))):=leads_good HL.out hlt hq hi hia
     have hpl:=past_lt hT hq hia
     obtain ⟨g,vcap,rfl,hg,hgc⟩:=hr.get (i:=i) (by omega)
     have hge:(ofN (argsN L t q))[i]'(by omega)=((past L t i (q+1):Nat):Int):=by
      have e1:=starts_at (L:=L) (t:=t) (p:=q+1) hia
      rw [← argsN_eq hq] at e1
      have e2:=(List.getElem?_eq_some_iff.1 e1).2
      simp [ofN,e2]
     rw [hge] at hgc
     rw [hi] at hpc2
     have j1:(0:Int)≤(i:Int):=by omega
     have j2:(i:Int)<((ofN (argsN L t q)).length:Int):=by omega
     have j3:¬ (ofN (argsN L t q)).length≤i:=by omega
     have j4:decide ((ofN (argsN L t q)).length≤i)=false:=by simp;omega
     clear hge hn0 hna HL hi
     generalize (ofN (argsN L t q)).length=N at *
     generalize past L t i (q+1)=P at *
     go_wp2
     exact ⟨⟨k+1,P,by omega,by go_num,rfl,hpl,HN,hs2⟩,by simp [intOf];omega⟩
  ·have H:Hid (leadR L t path=(q:Int)):=by
    have:=HL.out
    rw [List.drop_eq_nil_of_le (by omega)] at this
    simp [leadR,this,leads,Hid]
   clear c1
   go_wp2
   go_ret
   exact ⟨ret_int H.out.symm,hs⟩
structure Sought (w wr:World) (ov:Value) (ao:Option Addr) (args:List Int) (out:List Int):Prop where
 row:Row w.heap.size wr ov out
 at' : IntsAt wr ao args
 ne:∀ a,ao=some a→ov.ownBlock≠some a.block
 lt:∀ a,ao=some a→a.block<wr.heap.size
 s:Same0 w wr
theorem Sought.push {w wr w' : World} {ov:Value} {ao:Option Addr} {args out:List Int} {g cap:Nat} {x:Int} (h:Sought w wr ov ao args out) (hr:Row w.heap.size w' (.slice (some ⟨g,0,none⟩) (out.length+1) cap) (out ++ [x])) (hk:Kept (fun k=>ov.ownBlock=some k) wr w') (hat:ov.ownBlock=some g∨wr.heap.size≤g) :
  Sought w w' (.slice (some ⟨g,0,none⟩) (out.length+1) cap) ao args (out ++ [x]):=by
 refine ⟨hr,h.at'.kept hk (fun a e=>h.ne a e),?_,fun a e=>Nat.lt_of_lt_of_le (h.lt a e) hk.size,h.s.onto h.row hk⟩
 intro a e e'
 simp only [Value.ownBlock,Option.some.injEq] at e'
 rcases hat with e1 | e1
 ·exact h.ne a e (by rw [e1,e'])
 ·have:=h.lt a e;omega
theorem firsts_cons (i a:Nat) (st:List (Nat × Nat)):firsts ((i,a) :: st)=firsts st ++ [(i:Int)]:=by simp [firsts,ofN]
set_option maxRecDepth 4000 in
set_option maxHeartbeats 8000000 in
theorem rpath_any {n:Nat} {w:World} {rv:Value} {L:List Sym} (h:Rl n w rv L) {ao:Option Addr} {cap:Nat} {t:List Int} (ht:IntsAt w ao t) (hm:t.length≤2000) (hT:IsT L t) (p:Nat) (hp:p<t.length) :
  Calls Tryz.prog 87 #[rv,.slice ao t.length cap,.int .i64 (p:Int)] w fun e w' => ∃ v,e=.returned v∧Row w.heap.size w' v (firsts (way L t p))∧Same0 w w' := by
 have c1:Hid (∀ w1 q,Same0 w w1→q<t.length→Calls Tryz.prog 66 #[rv,.slice ao t.length cap,.int .i64 (q:Int)] w1 fun e w' => ∃ v,e=.returned v∧Row w1.heap.size w' v (ofN (argsN L t q))∧Same0 w1 w'):=fun w1 q hk hq=>rargs_any (cap:=cap) (h.same hk) (ht.same hk) hm hT q hq
 have c2:Hid (∀ w1 q,Same0 w w1→q<t.length→Calls Tryz.prog 67 #[rv,.slice ao t.length cap,.int .i64 (q:Int)] w1 fun e w' => e=.returned (.int .i64 (endN L t q:Int))∧w' = w1):=fun w1 q hk hq=>rend_any (cap:=cap) (h.same hk) (ht.same hk) hm q (by omega)
 have HAR:Hid (∀ x,arN L x≤6):=fun x=>arN_le h.2.2.1 x
 obtain ⟨ro,rcap,rfl⟩:=row_shape h.1
 go_enter Tryz.func87,Tryz.ntmps87
 go_wp2
 go_loopw [7,8] (fun ov hv wr=>∃ h:Nat,hv=.int .i64 (h:Int)∧h≤p∧p<endN L t h∧Row w.heap.size wr ov (firsts (way L t h))∧Same0 w wr) (fun _ hv _=>p-(intOf hv).toNat)
 case atStart=>exact ⟨0,rfl,Nat.zero_le _,by rw [endN_zero hT];exact hp,World.ownsRow_nil _ _ _ _,Kept.refl _ _⟩
 case round=>
  obtain ⟨q0,rfl,hq1,hq2,hr,hs⟩:=hrel
  obtain ⟨oo,ocap,rfl⟩:=row_shape hr
  by_cases hlt:q0<p
  ·have hq0:q0<t.length:=by omega
   obtain ⟨i0,hi0,g1,g2,g3,g4,g5,g6⟩:=kid_in hT hq0 hlt hq2
   have cA:=c1.out wr q0 hs hq0
   have h6:=HAR.out t[q0]
   have hlen:(ofN (argsN L t q0)).length=arN L t[q0]:=by rw [argsN_eq hq0];simp [ofN,starts_length]
   have HG:Hid (∀ j,j<arN L t[q0]→(ofN (argsN L t q0))[j]? = some ((past L t j (q0+1):Nat):Int)∧past L t j (q0+1)<t.length):=fun j hj=>by
    have e1:=starts_at (L:=L) (t:=t) (p:=q0+1) hj
    rw [← argsN_eq hq0] at e1
    exact ⟨by simp [ofN,e1],past_lt hT hq0 hj⟩
   have EW:Hid (firsts (way L t (past L t i0 (q0+1)))=firsts (way L t q0) ++ [(i0:Int)]):=by show _=_;rw [g5,firsts_cons]
   have HU:Hid (∀ j,j<arN L t[q0]→(past L t j (q0+1)≤p∧p<endN L t (past L t j (q0+1)) ↔ j=i0)):=g6
   have hwl:(firsts (way L t q0)).length≤2000:=by rw [firsts_length];have:=way_length L t q0 (by omega);omega
   have hltI:(q0:Int)<(p:Int):=by omega
   clear g5 g6
   go_wp2_with fail
   refine cA.mono ?_
   rintro e w2 ⟨va,rfl,ra,k2⟩
   obtain ⟨aao,acap,rfl,ia,_,hab⟩:=ra.ints
   have S0:Sought w w2 (.slice oo (firsts (way L t q0)).length ocap) aao (ofN (argsN L t q0)) (firsts (way L t q0)):=by
    refine ⟨Kept.row k2 hr (fun _ _ f=>f),ia,?_,fun a e=>(hab a e).2,hs.trans' k2⟩
    intro a e e'
    have:=(hr.lt _ e').2
    have:=(hab a e).1
    omega
   clear cA ra ia hab hr hs k2
   obtain ⟨A,hA⟩:∃ A,A=arN L t[q0]:=⟨_,rfl⟩
   rw [← hA] at hlen HG HU hi0 h6
   generalize hargs:ofN (argsN L t q0)=args at *
   rw [hlen]
   clear hargs hA
   generalize hW:firsts (way L t q0)=W0 at *
   have g1I:¬ (p:Int)<(past L t i0 (q0+1):Int):=by omega
   go_wp2
   obtain ⟨wo,rfl⟩:∃ wo:World,wo=wr:=⟨_,rfl⟩
   go_loopw [7,10,11] (fun ov nv kv wr=>∃ k:Nat,k≤A∧kv=.int .i64 (k:Int)∧((k≤i0∧nv=.int .i64 (q0:Int)∧Sought w wr ov aao args W0)∨(i0<k∧nv=.int .i64 (past L t i0 (q0+1):Int)∧Sought w wr ov aao args (W0 ++ [(i0:Int)])))) (fun _ _ kv _=>A-(intOf kv).toNat)
   case atStart=>exact ⟨0,Nat.zero_le _,rfl,.inl ⟨Nat.zero_le _,rfl,S0⟩⟩
   case round=>
    clear S0
    obtain ⟨k,hkA,rfl,hcase⟩:=hrel
    by_cases hkl:k<A
    ·obtain ⟨hg1,hg2⟩:=HG.out k hkl
     obtain ⟨hgl,hge⟩:=List.getElem?_eq_some_iff.1 hg1
     have hu:=HU.out k hkl
     have m0:(0:Int)≤(k:Int):=by omega
     have m1:(k:Int)<(A:Int):=by omega
     rcases hcase with ⟨hki,rfl,hS⟩ | ⟨hki,rfl,hS⟩
     ·obtain ⟨ab,aoff,rfl,_,hac⟩:=hS.at'.get hgl
      rw [hge] at hac
      have cE:=c2.out wr _ hS.s hg2
      by_cases hke:k=i0
      ·subst hke
       obtain ⟨vo,vcap,rfl⟩:=row_shape hS.row
       have hPp:((past L t k (q0+1):Nat):Int)≤(p:Int):=by omega
       have hpE:(p:Int)<(endN L t (past L t k (q0+1)):Int):=by omega
       have hb8:(W0.length+1) * 8≤140737488355328:=by omega
       have hrow:=hS.row
       have hss:=hS.s.size
       clear hg1 hge hu
       have hacs:∀ w', Kept (fun k=>Value.ownBlock (.slice vo W0.length vcap)=some k) wr w' → w'.cell? ⟨ab,aoff+k,none⟩=some (.int .i64 ((past L t k (q0+1):Nat):Int)):=fun w' hk=>(hk.cell (p:=⟨ab,aoff+k,none⟩) (hS.lt ⟨ab,aoff,none⟩ rfl) (hS.ne ⟨ab,aoff,none⟩ rfl)).trans hac
       have HACS:Hid (∀ w', Kept (fun k=>Value.ownBlock (.slice vo W0.length vcap)=some k) wr w' → w'.cell? ⟨ab,aoff+k,none⟩=some (.int .i64 ((past L t k (q0+1):Nat):Int))):=hacs
       clear hacs
       generalize past L t k (q0+1)=P at *
       go_wp2_with (first | (go_at_call 67;refine cE.mono ?_;rintro e wr ⟨rfl,rfl⟩) | (at_builtin;refine wpList_push rfl _ _ 32 rfl Tryz.underlying32 w.heap.size W0 _ rfl hrow (k:Int) rfl hss hb8 ?_;intro g gcap w4 hr4 hk4 hat4;have hS4:=hS.push hr4 hk4 hat4;have hac4:=HACS.out _ hk4))
       go_roundw
       case rel=>first | exact ⟨k+1,by omega,by go_num,.inr ⟨by omega,rfl,hS4⟩⟩ | ((repeat apply Exists.intro);exact ⟨⟨k+1,by omega,by go_num,.inr ⟨by omega,rfl,hS4⟩⟩,rfl⟩)
       case measure=>simp [intOf];omega
      ·have hno:¬ (past L t k (q0+1)≤p∧p<endN L t (past L t k (q0+1))):=fun e=>hke (hu.1 e)
       obtain ⟨vo,vcap,rfl⟩:=row_shape hS.row
       clear hg1 hge hu
       generalize past L t k (q0+1)=P at *
       by_cases hPp:P≤p
       ·have hPi:((P:Nat):Int)≤(p:Int):=by omega
        have hpE:¬ (p:Int)<(endN L t P:Int):=by omega
        clear hno
        go_wp2_with (first | (go_at_call 67;refine cE.mono ?_;rintro e wr ⟨rfl,rfl⟩))
        go_roundw
        case rel=>first | exact ⟨k+1,by omega,by go_num,.inl ⟨by omega,rfl,hS⟩⟩ | ((repeat apply Exists.intro);exact ⟨⟨k+1,by omega,by go_num,.inl ⟨by omega,rfl,hS⟩⟩,rfl⟩)
        case measure=>simp [intOf];omega
       ·have hPi:¬ ((P:Nat):Int)≤(p:Int):=by omega
        clear hno cE
        go_wp2
        go_roundw
        case rel=>first | exact ⟨k+1,by omega,by go_num,.inl ⟨by omega,rfl,hS⟩⟩ | ((repeat apply Exists.intro);exact ⟨⟨k+1,by omega,by go_num,.inl ⟨by omega,rfl,hS⟩⟩,rfl⟩)
        case measure=>simp [intOf];omega
     ·obtain ⟨ab,aoff,rfl,_,hac⟩:=hS.at'.get hgl
      rw [hge] at hac
      have cE:=c2.out wr _ hS.s hg2
      have hno:¬ (past L t k (q0+1)≤p∧p<endN L t (past L t k (q0+1))):=fun e=>by have:=hu.1 e;omega
      obtain ⟨vo,vcap,rfl⟩:=row_shape hS.row
      have hl1:(W0 ++ [(i0:Int)]).length=W0.length+1:=by simp
      rw [hl1] at hS ⊢
      clear hl1
      clear hg1 hge hu
      generalize past L t k (q0+1)=P at *
      by_cases hPp:P≤p
      ·have hPi:((P:Nat):Int)≤(p:Int):=by omega
       have hpE:¬ (p:Int)<(endN L t P:Int):=by omega
       clear hno
       go_wp2_with (first | (go_at_call 67;refine cE.mono ?_;rintro e wr ⟨rfl,rfl⟩))
       go_roundw
       case rel=>first | exact ⟨k+1,by omega,by go_num,.inr ⟨by omega,rfl,hS⟩⟩ | ((repeat apply Exists.intro);exact ⟨⟨k+1,by omega,by go_num,.inr ⟨by omega,rfl,hS⟩⟩,rfl⟩)
       case measure=>simp [intOf];omega
      ·have hPi:¬ ((P:Nat):Int)≤(p:Int):=by omega
       clear hno cE
       go_wp2
       go_roundw
       case rel=>first | exact ⟨k+1,by omega,by go_num,.inr ⟨by omega,rfl,hS⟩⟩ | ((repeat apply Exists.intro);exact ⟨⟨k+1,by omega,by go_num,.inr ⟨by omega,rfl,hS⟩⟩,rfl⟩)
       case measure=>simp [intOf];omega
    ·obtain rfl:k=A:=by omega
     rcases hcase with ⟨hki,rfl,hS⟩ | ⟨hki,rfl,hS⟩
     ·omega
     ·obtain ⟨vo,vcap,rfl⟩:=row_shape hS.row
      have hrw:=hS.row
      have hs9:=hS.s
      rw [← EW.out] at hrw
      have hne:((past L t i0 (q0+1):Int) == (q0:Int))=false:=by simp;omega
      have hne' : ¬ (past L t i0 (q0+1):Int)=(q0:Int):=by omega
      have hne'' : ¬ past L t i0 (q0+1)=q0:=by omega
      clear hS
      rw [← EW.out]
      generalize hPP:past L t i0 (q0+1)=P at *
      go_wp2
      go_roundw
      case rel=>first | exact ⟨P,rfl,g1,g2,hrw,hs9⟩ | ((repeat apply Exists.intro);exact ⟨⟨P,rfl,g1,g2,hrw,hs9⟩,rfl⟩)
      case measure=>simp [intOf];omega
  ·obtain rfl:q0=p:=by omega
   go_wp2
   go_ret
   exact ⟨_,rfl,hr,hs⟩
end Go.Proofs.YtoajbpmgoklflaaGreat
namespace Go.Proofs.YtoajbpmgoklflaaGreat
set_option maxRecDepth 100000
set_option linter.unusedVariables false
open Go.RowKit
attribute [local go_sem ↓] Go.wp_at_zero Go.wp_at_succ
theorem row_one8 (w:World) (base:Nat) (hb:base≤w.heap.size) (z:Int):Row base (w.alloc (.cells #[.int .i64 z] 3)) (.slice (some ⟨w.heap.size,0,none⟩) 1 1) [z]:=
 ⟨rfl,.inr ⟨w.heap.size,1, #[.int .i64 z],rfl,hb,heap_alloc_new w _,Nat.le_refl _,by unfold maxLen;omega,rfl,rfl⟩⟩
set_option maxHeartbeats 2000000 in
theorem at8_any {n:Nat} {w:World} {rv:Value} {L:List Sym} (h:Rl n w rv L) {ao po:Option Addr} {cap pcap:Nat} {t path:List Int} (ht:IntsAt w ao t) (hm:t.length≤2000) (hT:IsT L t) (hp:IntsAt w po path) (hpm:path.length≤maxLen) {q:Nat} (hq:leads L t 0 path=some q) (hlt:q<t.length) :
  Calls Tryz.prog 88 #[rv,.slice ao t.length cap,.slice po path.length pcap] w fun e w' => e=.returned (.int .i64 t[q])∧Same0 w w' := by
 have C:=rfrom_any (cap:=cap) (pcap:=pcap) h ht hm hT hp hpm
 have e0:leadR L t path=(q:Int):=by simp [leadR,hq]
 rw [e0] at C
 obtain ⟨ro,rcap,rfl⟩:=row_shape h.1
 obtain ⟨tb,off,rfl,htb,hc⟩:=ht.get hlt
 have HC:Hid (∀ ww,Same0 w ww→ww.cell? ⟨tb,off+q,none⟩=some (.int .i64 t[q])):=fun ww hk=>(hk.cell (p:=⟨tb,off+q,none⟩) htb (fun f=>f)).trans hc
 have i1:(0:Int)≤(q:Int):=by omega
 have i2:(q:Int)<(t.length:Int):=by omega
 have i3:¬ (q:Int)<0:=by omega
 clear h ht hp hq hc e0 hT
 generalize t[q]=x at *
 go_enter Tryz.func88,Tryz.ntmps88
 go_wp2_with (first | (go_at_call 25;refine C.mono ?_;rintro e w1 ⟨rfl,k1⟩;have hc1:=HC.out w1 k1))
 go_ret
 exact ⟨rfl,k1⟩
set_option maxHeartbeats 2000000 in
theorem fresh8_any {n:Nat} {w:World} {rv:Value} {L:List Sym} (h:Rl n w rv L) {c:Nat} (hc:c<L.length) :
  Calls Tryz.prog 43 #[rv,.int .i64 (c:Int)] w fun e w' => ∃ v,e=.returned v∧Row w.heap.size w' v (freshN L c)∧Same0 w w' := by
 have h6:=arN_le h.2.2.1 (c:Int)
 have CA:∀ ww,Same0 w ww→Calls Tryz.prog 90 #[rv,.int .i64 (c:Int)] ww fun e w' => e=.returned (.int .i64 (arN L (c:Int):Int))∧w' = ww:=fun ww hk=>by
  have:=rArity_any (h.same hk) (c:Int)
  rw [if_neg (by omega)] at this
  exact this
 have CAH:Hid (∀ ww,Same0 w ww→Calls Tryz.prog 90 #[rv,.int .i64 (c:Int)] ww fun e w' => e=.returned (.int .i64 (arN L (c:Int):Int))∧w' = ww):=CA
 have FR:Hid (∀ k,k≤arN L (c:Int)→((c:Int) :: List.replicate k (-1)) ++ [-1]=(c:Int) :: List.replicate (k+1) (-1)):=fun k _=>by
  rw [List.replicate_succ'];rfl
 have FE:Hid (freshN L c=(c:Int) :: List.replicate (arN L (c:Int)) (-1)):=rfl
 obtain ⟨ro,rcap,rfl⟩:=row_shape h.1
 obtain ⟨A,hA⟩:∃ A,A=arN L (c:Int):=⟨_,rfl⟩
 rw [← hA] at CAH FR FE h6
 clear CA hA h
 have S0:Same0 w (w.alloc (.cells #[.int .i64 (c:Int)] 3)):=(Kept.refl _ w).alloc _
 have R0:Row w.heap.size (w.alloc (.cells #[.int .i64 (c:Int)] 3)) (.slice (some ⟨w.heap.size,0,none⟩) 1 1) [(c:Int)]:=row_one8 w w.heap.size (Nat.le_refl _) (c:Int)
 go_enter Tryz.func43,Tryz.ntmps43
 go_wp2
 go_loopw [5,6] (fun v i wr=>∃ k:Nat,k≤A∧i=.int .i64 (k:Int)∧Row w.heap.size wr v ((c:Int) :: List.replicate k (-1))∧Same0 w wr) (fun _ i _=>A-(intOf i).toNat)
 case atStart=>exact ⟨0,Nat.zero_le _,rfl,R0,S0⟩
 case round=>
  clear R0 S0
  obtain ⟨k,hk,rfl,hr,hs⟩:=hrel
  obtain ⟨vo,vc,rfl⟩:=row_shape hr
  have C1:=CAH.out wr hs
  by_cases hlt:k<A
  ·have i2:(k:Int)<(A:Int):=by omega
   have E:=FR.out k (by omega)
   have HE:Hid (((c:Int) :: List.replicate k (-1)) ++ [-1]=(c:Int) :: List.replicate (k+1) (-1)):=E
   have zA:=hs.size
   have hlen:((c:Int) :: List.replicate k (-1)).length=k+1:=by simp
   have hb8:(((c:Int) :: List.replicate k (-1)).length+1) * 8≤140737488355328:=by omega
   clear E hlen
   generalize ((c:Int) :: List.replicate k (-1))=xs at *
   go_wp2_with (first | (go_at_call 90;refine C1.mono ?_;rintro e w1 ⟨rfl,rfl⟩) | (at_builtin;refine wpList_push rfl _ _ 64 rfl Tryz.underlying64 w.heap.size xs _ rfl hr (-1) rfl zA hb8 ?_;intro g cap w4 hr4 hk4 hat4))
   refine ⟨⟨k+1,by omega,by go_num,?_,Kept.trans hs hk4 (fun i hi e=>by have:=(hr.lt i e).1;omega)⟩,by simp [intOf];omega⟩
   rw [← HE.out]
   exact hr4
  ·obtain rfl:k=A:=by omega
   have hlen:((c:Int) :: List.replicate k (-1)).length=k+1:=by simp
   rw [hlen] at hr
   clear hlen
   go_wp2_with (first | (go_at_call 90;refine C1.mono ?_;rintro e w1 ⟨rfl,rfl⟩))
   go_ret
   exact ⟨_,rfl,by rw [FE.out];exact hr,hs⟩
def PlcZ (L:List Sym) (t:List Int) (rows:List Rw) (z:Int):Prop:=
 (z = -1∧partN rows (vpS L [] t).length=none)∨∃ p:Nat,z=(p:Int)∧∃ hp:p<t.length,t[p]<0∧partN rows (vpS L [] t).length=some (colN L t p)
structure NdD (w:World) (L:List Sym) (R:List Ru) (n:Nat) (rv:Value) (mo tn so:Option Addr) (tc:Nat) (t:List Int) (rows:List Rw):Prop where
 rl:Rl w.heap.size w rv L
 rs:RsAt w mo R
 le:R.length≤100
 ti:IntsAt w tn t
 cap:t.length≤tc
 si:IntsAt w so (rows.map (·.1))
 dn:DocN L R t rows
 nk:NdOk L n (vpS L [] t) rows
theorem NdD.same {w w' : World} {L:List Sym} {R:List Ru} {n:Nat} {rv:Value} {mo tn so:Option Addr} {tc:Nat} {t:List Int} {rows:List Rw} (h:NdD w L R n rv mo tn so tc t rows) (hk:Same0 w w'):NdD w' L R n rv mo tn so tc t rows:=
 ⟨rl_up (h.rl.same hk) hk.size,h.rs.same hk,h.le,h.ti.same hk,h.cap,h.si.same hk,h.dn,h.nk⟩
theorem partN_grow {rows:List Rw} {c:Nat} (h:partN rows c=none):(conB rows c=true→∀ k,c<k→partN rows k=some c)∧(conB rows c=false→partN rows (c+1)=none):=by
 refine ⟨fun hc k hk=>?_,fun hc=>?_⟩
 ·induction k with
  | zero=>omega
  | succ k ih=>
   unfold partN
   by_cases e:c=k
   ·subst e;rw [h,hc];rfl
   ·rw [ih (by omega)]
 ·unfold partN;rw [h,hc];rfl
theorem conB_take {rows:List Rw} {c k:Nat} (h:k<rows.length):conB (rows.take (k+1)) c=(conB (rows.take k) c && decide (0≤numR rows[k] c)):=by
 unfold conB
 rw [List.take_add_one,List.getElem?_eq_getElem h,List.all_append]
 simp
theorem NdD.at' {w:World} {L:List Sym} {R:List Ru} {n:Nat} {rv:Value} {mo tn so:Option Addr} {tc:Nat} {t:List Int} {rows:List Rw} (h:NdD w L R n rv mo tn so tc t rows) {k:Nat} (hk:k<rows.length) {c:Nat} (hc:c<(vpS L [] t).length) :
  ∃ sb soff mb moff,so=some ⟨sb,soff,none⟩∧mo=some ⟨mb,moff,none⟩∧∃ j:Nat,j<R.length∧rows[k].1=(j:Int)∧∀ ww,Same0 w ww→ww.cell? ⟨sb,soff+k,none⟩=some (.int .i64 (j:Int))∧∃ ao al ac,ww.cell? ⟨mb,moff+j * 2,none⟩=some (.slice ao al ac) ∧
   ∀ po pc,IntsAt ww po (vpS L [] t)[c]→Calls Tryz.prog 88 #[rv,.slice ao al ac,.slice po (vpS L [] t)[c].length pc] ww fun e w' => e=.returned (.int .i64 (numR rows[k] c))∧Same0 ww w' := by
 obtain ⟨j,hj,e1,e2⟩:=h.dn.row _ (List.getElem_mem hk)
 obtain ⟨k1,k2,k3,_⟩:=h.nk.ok _ (List.getElem_mem hk)
 have hz:=checkE_zero.1 k1
 have hc' : c<rows[k].2.2.length:=by omega
 have hq:=k3 _ (List.getElem_mem hc')
 have hl:=(h.dn.led _ (List.getElem_mem hk)).at hc hc'
 have hn:=numR_eq hc' hq
 have hpl:=(h.nk.len _ (List.getElem_mem hc)).2
 have hsk:k<(rows.map (·.1)).length:=by simpa using hk
 obtain ⟨sb,soff,rfl,hsb,hsc⟩:=h.si.get hsk
 obtain ⟨mb,moff,rfl,hmb,ao,ac,bo,bc,r0,r1,A1,_⟩:=h.rs.get hj
 refine ⟨sb,soff,mb,moff,rfl,rfl,j,hj,e1,fun ww hw=>⟨?_,ao,rows[k].2.1.length,ac,(by rw [e2];exact (hw.cell (p:=⟨mb,moff+j * 2,none⟩) hmb (fun f=>f)).trans r0),fun po pc hp=>?_⟩⟩
 ·have:=(hw.cell (p:=⟨sb,soff+k,none⟩) hsb (fun f=>f)).trans hsc
  rw [this,List.getElem_map,e1]
 ·rw [hn]
  have A2:IntsAt ww ao rows[k].2.1:=by rw [e2];exact (A1.same hw).at'
  exact at8_any (cap:=ac) (pcap:=pc) (h.same hw).rl A2 hz.1 hz.2.2 hp (by unfold maxLen;omega) hl hq
set_option maxHeartbeats 8000000 in
theorem place8_any {w:World} {L:List Sym} {R:List Ru} {n:Nat} {rv:Value} {mo tn so:Option Addr} {tc:Nat} {t:List Int} {rows:List Rw} (h:NdD w L R n rv mo tn so tc t rows) (hm:t.length≤2000) (mc sc:Nat) :
  Calls Tryz.prog 86 #[rv,.slice mo R.length mc,.slice tn t.length tc,.slice so rows.length sc] w fun e w' => ∃ z,e=.returned (.int .i64 z)∧Hid (PlcZ L t rows z)∧Same0 w w' := by
 have hrl:=h.nk.le
 have hRl:=h.le
 have CP:Hid (∀ ww i,Same0 w ww→i<t.length→Calls Tryz.prog 87 #[rv,.slice tn t.length tc,.int .i64 (i:Int)] ww fun e w' => ∃ po pc,e=.returned (.slice po (firsts (way L t i)).length pc)∧Hid (IntsAt w' po (firsts (way L t i)))∧Same0 ww w'):=fun ww i hk hi=>(rpath_any (cap:=tc) (h.same hk).rl (h.ti.same hk) hm h.dn.isT i hi).mono (fun e w' ⟨v,e1,r,k⟩=>by
  obtain ⟨ao,cap,rfl,ia,_,_⟩:=r.ints
  exact ⟨ao,cap,e1,ia,k⟩)
 have HH:Hid (∀ ww,Same0 w ww→NdD ww L R n rv mo tn so tc t rows):=fun ww hk=>h.same hk
 obtain ⟨ro,rcap,rfl⟩:=row_shape h.rl.1
 clear h
 go_enter Tryz.func86,Tryz.ntmps86
 go_wp2
 go_loopw [9] (fun i wr=>∃ k:Nat,k≤t.length∧i=.int .i64 (k:Int)∧Hid (partN rows (colN L t k)=none)∧Same0 w wr) (fun i _=>t.length-(intOf i).toNat)
 case atStart=>exact ⟨0,Nat.zero_le _,rfl,rfl,Kept.refl _ _⟩
 case round=>
  obtain ⟨k,hk,rfl,hN,hs⟩:=hrel
  by_cases hlt:k<t.length
  ·obtain ⟨tb,toff,rfl,htb,htc⟩:=(HH.out wr hs).ti.get hlt
   have i1:(0:Int)≤(k:Int):=by omega
   have i2:(k:Int)<(t.length:Int):=by omega
   by_cases hv:t[k]<0
   ·have hv2:¬ (0:Int)≤t[k]:=by omega
    have hcl:=col_lt (L:=L) hlt hv
    have hcn:=col_next (L:=L) hlt
    rw [if_pos hv] at hcn
    have HCN:Hid (colN L t (k+1)=colN L t k+1):=hcn
    have hpc:(vpS L [] t)[colN L t k]=firsts (way L t k):=by
     have:=col_get (L:=L) hlt hv
     rw [List.getElem?_eq_getElem hcl] at this
     simpa using this
    have C1:=CP.out wr k hs hlt
    have PZ:Hid (conB rows (colN L t k)=true→PlcZ L t rows (k:Int)):=fun hc=>.inr ⟨k,rfl,hlt,hv,(partN_grow hN.out).1 hc _ hcl⟩
    have NZ:Hid (conB rows (colN L t k)=false→partN rows (colN L t (k+1))=none):=fun hc=>by rw [HCN.out];exact (partN_grow hN.out).2 hc
    have HA:Hid (∀ ww,Same0 w ww→∀ (m:Nat) (hm:m<rows.length),∃ sb soff mb moff,so=some ⟨sb,soff,none⟩∧mo=some ⟨mb,moff,none⟩∧∃ j:Nat,j<R.length∧ww.cell? ⟨sb,soff+m,none⟩=some (.int .i64 (j:Int))∧∃ ao al ac,ww.cell? ⟨mb,moff+j * 2,none⟩=some (.slice ao al ac)∧∀ po pc,IntsAt ww po (firsts (way L t k))→Calls Tryz.prog 88 #[.slice ro L.length rcap,.slice ao al ac,.slice po (firsts (way L t k)).length pc] ww fun e w' => e=.returned (.int .i64 (numR rows[m] (colN L t k)))∧Same0 ww w'):=fun ww hk2 m hm2=>by
     obtain ⟨sb,soff,mb,moff,e1,e2,j,hj,e3,HF⟩:=(HH.out ww hk2).at' hm2 hcl
     obtain ⟨f1,ao,al,ac,f2,CA⟩:=HF ww (Kept.refl _ _)
     rw [hpc] at CA
     exact ⟨sb,soff,mb,moff,e1,e2,j,hj,f1,ao,al,ac,f2,CA⟩
    have C0:conB (rows.take 0) (colN L t k)=true:=rfl
    clear hcl hcn hpc hv HCN HH CP hN
    generalize colN L t k=c at *
    generalize firsts (way L t k)=P at *
    go_wp2_with (first | (go_at_call 87;refine C1.mono ?_;rintro e w2 ⟨po,pc,rfl,hpi,k2⟩))
    have hs2:Same0 w w2:=hs.trans' k2
    have HPI:Hid (∀ ww,Same0 w2 ww→IntsAt ww po P):=fun ww hk=>hpi.out.same hk
    clear C1 hpi
    obtain ⟨wo,rfl⟩:∃ wo:World,wo=wr:=⟨_,rfl⟩
    go_loopw [11,12] (fun av kv wi=>∃ m:Nat,m≤rows.length∧kv=.int .i64 (m:Int)∧av=.bool (conB (rows.take m) c)∧Same0 w2 wi) (fun _ kv _=>rows.length-(intOf kv).toNat)
    case atStart=>exact ⟨0,Nat.zero_le _,rfl,rfl,Kept.refl _ _⟩
    case round=>
     obtain ⟨m,hml,rfl,rfl,hsi⟩:=hrel
     by_cases hmlt:m<rows.length
     ·obtain ⟨sb,soff,mb,moff,rfl,rfl,j,hj,f1,ao,al,ac,f2,CA⟩:=HA.out _ (hs2.trans' hsi) m hmlt
      have C2:=CA po pc (HPI.out _ hsi)
      have CT:Hid (conB (rows.take (m+1)) c=(conB (rows.take m) c && decide (0≤numR rows[m] c))):=conB_take hmlt
      have j1:(0:Int)≤(m:Int):=by omega
      have j2:(m:Int)<(rows.length:Int):=by omega
      have j3:(0:Int)≤(j:Int):=by omega
      have j4:(j:Int)<(R.length:Int):=by omega
      clear CA HA hj PZ NZ
      by_cases hz:numR rows[m] c<0
      ·have CF:Hid (conB (rows.take (m+1)) c=false):=by show _=_;rw [CT.out];simp;omega
       clear CT
       generalize numR rows[m] c=z at *
       go_wp2_with (first | (go_at_call 88;refine C2.mono ?_;rintro e w5 ⟨rfl,k5⟩))
       go_roundw
       case rel=>exact ⟨m+1,by omega,by go_num,by rw [CF.out],hsi.trans' k5⟩
       case measure=>simp [intOf];omega
      ·have CF:Hid (conB (rows.take (m+1)) c=conB (rows.take m) c):=by
        show _=_
        have e0:decide (0≤numR rows[m] c)=true:=by simp;omega
        rw [CT.out,e0,Bool.and_true]
       clear CT
       generalize numR rows[m] c=z at *
       generalize conB (rows.take m) c=bb at *
       go_wp2_with (first | (go_at_call 88;refine C2.mono ?_;rintro e w5 ⟨rfl,k5⟩))
       go_roundw
       case rel=>exact ⟨m+1,by omega,by go_num,by rw [CF.out],hsi.trans' k5⟩
       case measure=>simp [intOf];omega
     ·obtain rfl:m=rows.length:=by omega
      rw [List.take_length]
      clear HA
      cases hb:conB rows c with
      | true=>
       have P1:Hid (PlcZ L t rows (k:Int)):=PZ.out hb
       clear PZ NZ hb C0
       go_wp2_with fail
       go_ret
       exact ⟨_,rfl,P1,hs2.trans' hsi⟩
      | false=>
       have P1:Hid (partN rows (colN L t (k+1))=none):=NZ.out hb
       clear PZ NZ hb C0
       go_wp2_with fail
       go_roundw
       case rel=>exact ⟨k+1,by omega,by go_num,P1,hs2.trans' hsi⟩
       case measure=>simp [intOf];omega
   ·have hv2:(0:Int)≤t[k]:=by omega
    have hcn:=col_next (L:=L) hlt
    rw [if_neg hv] at hcn
    have P1:Hid (partN rows (colN L t (k+1))=none):=by show _=_;rw [hcn];exact hN.out
    clear hcn hN
    go_wp2_with fail
    go_roundw
    case rel=>exact ⟨k+1,by omega,by go_num,P1,hs⟩
    case measure=>simp [intOf];omega
  ·obtain rfl:k=t.length:=by omega
   have P1:Hid (PlcZ L t rows (-1)):=.inl ⟨rfl,by rw [← col_all (L:=L)];exact hN.out⟩
   clear hN
   go_wp2_with fail
   go_ret
   exact ⟨_,rfl,P1,hs⟩
end Go.Proofs.YtoajbpmgoklflaaGreat
