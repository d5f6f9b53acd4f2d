import Derived.Test.YtdhiiicppcgkbaaGreatGW05
import Derived.Test.YtdhiiicppcgkbaaGreatGW21
import Derived.Deep.RegionLaw
import Derived.Deep.CutRange
import Derived.BigRegion
import Derived.Test.YtdhiiicppcgkbaaGreatGW04
namespace Go.Proofs.YtdhiiicppcgkbaaGreat
set_option linter.unusedVariables false
open Go.RowKit
attribute [local go_sem ↓] Go.wp_at_zero Go.wp_at_succ
def turnCells (l:List (Nat × Nat)):List Value:=l.flatMap fun x=>[.int .i64 (x.1:Int),.int .i64 (x.2:Int)]
theorem turnCells_length (l:List (Nat × Nat)):(turnCells l).length=l.length * 2:=by
 induction l with
 | nil=>rfl
 | cons x r ih=>simp [turnCells] at ih ⊢;omega
theorem turnCells_append (a b:List (Nat × Nat)):turnCells (a++b)=turnCells a++turnCells b:=by simp [turnCells]
theorem turnCells_at {l:List (Nat × Nat)} {i:Nat} (h:i<l.length):(turnCells l)[i * 2]? = some (.int .i64 (l[i].1:Int))∧(turnCells l)[i * 2+1]? = some (.int .i64 (l[i].2:Int)):=by
 induction l generalizing i with
 | nil=>simp at h
 | cons x r ih=>
  have e:turnCells (x :: r)=.int .i64 (x.1:Int) :: .int .i64 (x.2:Int) :: turnCells r:=by simp [turnCells]
  rw [e]
  cases i with
  | zero=>simp
  | succ j=>
   have:=ih (i:=j) (by simpa using h)
   rw [show (j+1) * 2=j * 2+1+1 by omega]
   simpa using this
theorem info_turn:(Tryz.prog.info? 290).map (fun i=>(i.zero,i.size,i.bytes))=some (some (.agg #[.int .i64 0,.int .i64 0]),2,16):=by kernel_rfl
def Fine (st:List (Nat × Nat)):Prop:=∀ x∈st,x.1<x.2∧x.2≤6
theorem bump_fine {st:List (Nat × Nat)} (h:Fine st):Fine (bump st):=by
 induction st with
 | nil=>exact h
 | cons x r ih=>
  obtain ⟨j,a⟩:=x
  have hx:=h (j,a) (by simp)
  have hr:Fine r:=fun y hy=>h y (by simp [hy])
  unfold bump
  split
  ·intro y hy
   rcases List.mem_cons.1 hy with rfl | hy
   ·exact ⟨by simpa using (by assumption:j+1<a),hx.2⟩
   ·exact hr y hy
  ·exact ih hr
theorem pass_fine {st:List (Nat × Nat)} (h:Fine st) {a:Nat} (ha:a≤6):Fine (pass st a):=by
 unfold pass
 split
 ·intro y hy
  rcases List.mem_cons.1 hy with rfl | hy
  ·exact ⟨by assumption,ha⟩
  ·exact h y hy
 ·exact bump_fine h
theorem bump_length (st:List (Nat × Nat)):(bump st).length≤st.length:=by
 induction st with
 | nil=>simp [bump]
 | cons x r ih=>
  obtain ⟨j,a⟩:=x
  unfold bump
  split
  ·simp
  ·simp;omega
theorem pass_length (st:List (Nat × Nat)) (a:Nat):(pass st a).length≤st.length+1:=by
 unfold pass
 split
 ·simp
 ·have:=bump_length st;omega
structure TrailAt (base:Nat) (w:World) (a:Nat) (v:Value) (st:List (Nat × Nat)):Prop where
 blk:w.heap[a]? = some (.cells #[v] 259 (0,0))
 row:w.ownsRow base 290 2 v st.length (turnCells st.reverse)
 ap:v.ownBlock≠some a
 fine:Fine st
 len:st.length≤2000
def TFoot (a:Nat) (v:Value) (k:Nat):Prop:=k=a∨v.ownBlock=some k
theorem TrailAt.same {base:Nat} {w w' : World} {a:Nat} {v:Value} {st:List (Nat × Nat)} (h:TrailAt base w a v st) (k:Same0 w w'):TrailAt base w' a v st:=
 ⟨k.at h.blk (fun f=>f),Kept.row k h.row (fun _ _ f=>f),h.ap,h.fine,h.len⟩
theorem row_take {w:World} {base g n cap size m:Nat} {e:TypeId} {xs:List Value} (h:w.ownsRow base e size (.slice (some ⟨g,0,none⟩) n cap) n xs) (hm:m≤n):w.ownsRow base e size (.slice (some ⟨g,0,none⟩) m cap) m (xs.take (m * size)):=by
 have hl:=h.1
 have hmn:m * size≤n * size:=Nat.mul_le_mul_right _ hm
 refine ⟨by rw [List.length_take,hl];omega,?_⟩
 rcases h.2 with ⟨e1,_⟩ | ⟨g', cap', cur,hv,hb,hg,h1,h2,h3,h4⟩
 ·cases e1
 ·simp only [Value.slice.injEq,Option.some.injEq,Addr.mk.injEq,and_true,true_and] at hv
  obtain ⟨rfl,rfl⟩:=hv
  exact .inr ⟨g,cap,cur,rfl,hb,hg,by omega,h2,h3,by rw [← h4,List.take_take,Nat.min_eq_left hmn]⟩
def Passed (base:Nat) (w:World) (a:Nat) (v:Value) (st' : List (Nat × Nat)) (w' : World):Prop:=∃ v', TrailAt base w' a v' st' ∧ Kept (TFoot a v) w w' ∧ ∀ k,TFoot a v' k→TFoot a v k∨w.heap.size≤k
structure Popped (base:Nat) (w:World) (a:Nat) (v0:Value) (st0:List (Nat × Nat)) (wr:World) (v:Value) (st:List (Nat × Nat)):Prop where
 tr:TrailAt base wr a v st
 k:Kept (TFoot a v0) w wr
 f:∀ k,TFoot a v k→TFoot a v0 k
 eq:Hid (bump st=bump st0)
theorem Popped.step {base:Nat} {w:World} {a g cap:Nat} {v0:Value} {st0:List (Nat × Nat)} {wr:World} {j n:Nat} {r:List (Nat × Nat)} (h:Popped base w a v0 st0 wr (.slice (some ⟨g,0,none⟩) (r.length+1) cap) ((j,n) :: r)) :
  (j+1<n→TrailAt base (wr.setCell ⟨g,r.length * 2,none⟩ (.int .i64 ((j:Int)+1))) a (.slice (some ⟨g,0,none⟩) (r.length+1) cap) (bump st0)∧Kept (TFoot a v0) w (wr.setCell ⟨g,r.length * 2,none⟩ (.int .i64 ((j:Int)+1)))∧∀ k,TFoot a (.slice (some ⟨g,0,none⟩) (r.length+1) cap) k→TFoot a v0 k) ∧
  (¬ j+1<n→Popped base w a v0 st0 ((wr.setCell ⟨g,r.length * 2,none⟩ (.int .i64 ((j:Int)+1))).setCell ⟨a,0,none⟩ (.slice (some ⟨g,0,none⟩) r.length cap)) (.slice (some ⟨g,0,none⟩) r.length cap) r):=by
 have hga:g≠a:=fun e=>h.tr.ap (by rw [e];rfl)
 have k1:Kept (TFoot a v0) w (wr.setCell ⟨g,r.length * 2,none⟩ (.int .i64 ((j:Int)+1))):=h.k.setCell (p:=⟨g,r.length * 2,none⟩) (fun _=>h.f g (.inr rfl)) _
 have hrow:=h.tr.row
 have hx:turnCells ((j,n) :: r).reverse=turnCells r.reverse ++ [.int .i64 (j:Int),.int .i64 (n:Int)]:=by
  rw [List.reverse_cons,turnCells_append];simp [turnCells]
 have hl2:(turnCells r.reverse).length=r.length * 2:=by rw [turnCells_length,List.length_reverse]
 rw [hx] at hrow
 have hs:=(hrow.stored (r.length * 2) (.int .i64 ((j:Int)+1))).1
 have hset:(turnCells r.reverse ++ [Value.int .i64 (j:Int),.int .i64 (n:Int)]).set (r.length * 2) (.int .i64 ((j:Int)+1))=turnCells r.reverse ++ [.int .i64 ((j:Int)+1),.int .i64 (n:Int)]:=by
  rw [← hl2,List.set_append_right _ _ (Nat.le_refl _)];simp
 rw [hset] at hs
 have hb:(wr.setCell ⟨g,r.length * 2,none⟩ (.int .i64 ((j:Int)+1))).heap[a]? = some (.cells #[.slice (some ⟨g,0,none⟩) (r.length+1) cap] 259 (0,0)):=by
  rw [Below.heap_setCell _ _ _ _ (by simpa using (Ne.symm hga))]
  exact h.tr.blk
 have hfr:Fine r:=fun y hy=>h.tr.fine y (by simp [hy])
 have hlr:r.length≤2000:=by have:=h.tr.len;simp at this;omega
 have hf0:=h.tr.fine (j,n) (by simp)
 constructor
 ·intro hj
  have e1:bump st0=(j+1,n) :: r:=by rw [← h.eq.out,bump,if_pos hj]
  rw [e1]
  refine ⟨⟨hb,?_,h.tr.ap,?_,by simpa using h.tr.len⟩,k1,h.f⟩
  ·have:turnCells ((j+1,n) :: r).reverse=turnCells r.reverse ++ [.int .i64 ((j:Int)+1),.int .i64 (n:Int)]:=by
    rw [List.reverse_cons,turnCells_append];simp [turnCells]
   rw [this];exact hs
  ·intro y hy
   rcases List.mem_cons.1 hy with rfl | hy
   ·exact ⟨hj,hf0.2⟩
   ·exact hfr y hy
 ·intro hj
  have e1:bump r=bump st0:=by rw [← h.eq.out,bump,if_neg hj]
  have ht:=row_take (m:=r.length) hs (by omega)
  rw [List.take_left' (by rw [hl2])] at ht
  have k2:Kept (fun k=>k=a) (wr.setCell ⟨g,r.length * 2,none⟩ (.int .i64 ((j:Int)+1))) ((wr.setCell ⟨g,r.length * 2,none⟩ (.int .i64 ((j:Int)+1))).setCell ⟨a,0,none⟩ (.slice (some ⟨g,0,none⟩) r.length cap)):=Kept.setCell (S:=fun k=>k=a) (p:=⟨a,0,none⟩) (Kept.refl _ _) (fun _=>rfl) _
  refine ⟨⟨?_,?_,by simpa [Value.ownBlock] using hga,hfr,hlr⟩,k1.setCell (p:=⟨a,0,none⟩) (fun _=>.inl rfl) _,fun k hk=>h.f k hk,e1⟩
  ·rw [setAt hb];rfl
  ·exact k2.row ht (fun k e e' => by simp [Value.ownBlock] at e;omega)
theorem Popped.cells {base:Nat} {w:World} {a:Nat} {v0 v:Value} {st0:List (Nat × Nat)} {wr:World} {j n:Nat} {r:List (Nat × Nat)} (h:Popped base w a v0 st0 wr v ((j,n) :: r)) :
  ∃ g cap,v=.slice (some ⟨g,0,none⟩) (r.length+1) cap∧g≠a∧wr.cell? ⟨a,0,none⟩=some v∧wr.frozen? ⟨a,0,none⟩=false∧wr.cell? ⟨g,r.length * 2,none⟩=some (.int .i64 (j:Int))∧wr.cell? ⟨g,r.length * 2+1,none⟩=some (.int .i64 (n:Int))∧wr.frozen? ⟨g,r.length * 2,none⟩=false∧g<wr.heap.size:=by
 obtain ⟨g,cap,hv,_,hlt⟩:=h.tr.row.form (by simp)
 subst hv
 have hga:g≠a:=fun e=>h.tr.ap (by rw [e];rfl)
 have hrow:=h.tr.row
 have hi:r.length<((j,n) :: r).reverse.length:=by simp
 obtain ⟨c1,c2⟩:=turnCells_at hi
 have e:((j,n) :: r).reverse[r.length]=(j,n):=by simp
 rw [e] at c1 c2
 refine ⟨g,cap,rfl,hga,cellAt h.tr.blk 0,frozenAt h.tr.blk 0,?_,?_,hrow.frozenAt _,hlt⟩
 ·rw [hrow.cellAt _ (by simp)];exact c1
 ·rw [hrow.cellAt _ (by simp;omega)];exact c2
theorem Passed.same {base:Nat} {w w' w'' : World} {a:Nat} {v:Value} {st:List (Nat × Nat)} (h:Passed base w a v st w') (k:Same0 w' w''):Passed base w a v st w'' := by
 obtain ⟨v', h1,h2,h3⟩:=h
 exact ⟨v', h1.same k,h2.trans k (fun _ _ f=>f.elim),h3⟩
theorem Popped.same {base:Nat} {w:World} {a:Nat} {v0 v:Value} {st0 st:List (Nat × Nat)} {wr wr' : World} (h:Popped base w a v0 st0 wr v st) (k:Same0 wr wr'):Popped base w a v0 st0 wr' v st:=
 ⟨h.tr.same k,h.k.trans k (fun _ _ f=>f.elim),h.f,h.eq⟩
theorem push_end {base:Nat} {w w1:World} {a n gg cap:Nat} {v:Value} {st:List (Nat × Nat)} (h:TrailAt base w a v st) (hb:base≤w.heap.size) (hn:0<n) (hn6:n≤6) (hl:st.length<2000)
  (hown:w1.ownsRow base 290 2 (.slice (some ⟨gg,0,none⟩) (st.length+1) cap) (st.length+1) (turnCells st.reverse ++ [.int .i64 0,.int .i64 (n:Int)]))
  (hgrow:(w.alloc (.cells #[.int .i64 0,.int .i64 (n:Int)] 290)).grownBy w1 v.ownBlock) (hat:v.ownBlock=some gg∨gg=w.heap.size+1) :
  (w1.heap[a]? = some (.cells #[v] 259 (0,0)))∧Passed base w a v (pass st n) (w1.setCell ⟨a,0,none⟩ (.slice (some ⟨gg,0,none⟩) (st.length+1) cap)):=by
 have la:=lt_of_at h.blk
 have k1:Kept (fun k=>v.ownBlock=some k) w w1:=Kept.grown (Kept.alloc (Kept.refl _ w) _) hgrow (fun _ e _=>e)
 have hb1:=k1.at h.blk h.ap
 have hga:gg≠a:=by
  rcases hat with e | e
  ·intro e'; exact h.ap (by rw [e,e'])
  ·omega
 have k2:Kept (TFoot a v) w (w1.setCell ⟨a,0,none⟩ (.slice (some ⟨gg,0,none⟩) (st.length+1) cap)):=(k1.mono (fun _ _ e=>.inr e)).setCell (p:=⟨a,0,none⟩) (fun _=>.inl rfl) _
 have k3:Kept (fun k=>k=a) w1 (w1.setCell ⟨a,0,none⟩ (.slice (some ⟨gg,0,none⟩) (st.length+1) cap)):=Kept.setCell (S:=fun k=>k=a) (p:=⟨a,0,none⟩) (Kept.refl _ _) (fun _=>rfl) _
 have e1:pass st n=(0,n) :: st:=by rw [pass,if_pos hn]
 refine ⟨hb1,.slice (some ⟨gg,0,none⟩) (st.length+1) cap,⟨?_,?_,by simpa [Value.ownBlock] using hga,pass_fine h.fine hn6,?_⟩,k2,?_⟩
 ·rw [setAt hb1];rfl
 ·rw [e1]
  have:turnCells ((0,n) :: st).reverse=turnCells st.reverse ++ [.int .i64 0,.int .i64 (n:Int)]:=by
   rw [List.reverse_cons,turnCells_append];simp [turnCells]
  rw [this]
  exact k3.row hown (fun k e e' => by simp [Value.ownBlock] at e;omega)
 ·rw [e1];simp;omega
 ·intro k hk
  rcases hk with e | e
  ·exact .inl (.inl e)
  ·simp [Value.ownBlock] at e
   subst e
   rcases hat with e | e
   ·exact .inl (.inr e)
   ·right;omega
set_option maxHeartbeats 4000000 in
theorem pass_any {base:Nat} {w:World} {a:Nat} {v:Value} {st:List (Nat × Nat)} (h:TrailAt base w a v st) (hb:base≤w.heap.size) (n:Nat) (hn6:n≤6) (hl:st.length<2000) :
  Calls Tryz.prog 167 #[.pointer (some ⟨a,0,none⟩),.int .i64 (n:Int)] w fun e w' => (∃ x,e=.returned x)∧Passed base w a v (pass st n) w' := by
 obtain ⟨vo,vcap,rfl⟩:=row_shape h.row
 have c0:=cellAt h.blk 0
 have f0:=frozenAt h.blk 0
 simp only [List.getElem?_toArray,List.getElem?_cons_zero] at c0
 by_cases hn:0<n
 ·obtain ⟨i0,hi0,hz0,hz1,hz2⟩:=info_parts info_turn
  have hn1:st.length+1≤maxLen:=by unfold maxLen;omega
  have hn2:(st.length+1) * 16≤140737488355328:=by omega
  have hb' : base≤(w.alloc (.cells #[.int .i64 0,.int .i64 (n:Int)] 290)).heap.size:=by simp;omega
  have hnn:(0:Int)<(n:Int):=by omega
  have PE:=fun gg cap w1 hown hgrow hat=>push_end (gg:=gg) (cap:=cap) (w1:=w1) h hb hn hn6 hl hown hgrow hat
  go_enter Tryz.func167,Tryz.ntmps167
  go_wp2_with (first | (at_builtin;refine wpList_append_lies _ rfl _ _ 259 rfl base 290 i0 _ 2 16 Tryz.underlying259 hi0 hz0 hz1 hz2 rfl (by omega) (.slice vo st.length vcap) st.length (turnCells st.reverse) rfl (h.row.alloc _) ⟨w.heap.size,0,none⟩ 1 1 [.int .i64 0,.int .i64 (n:Int)] rfl rfl (World.news_of_block (cs:=#[.int .i64 0,.int .i64 (n:Int)]) (t:=290) (fr:=(0,0)) (heap_alloc_new w _)) (by simp [Value.oneCell']) (by omega) hn1 hn2 hb' (w.heap.size+1) (by simp) ?_;intro gg cap w1 hown hgrow hat hlt;obtain ⟨b1,hP⟩:=PE gg cap w1 hown hgrow hat;have k0:=cellAt b1 0;have k1:=frozenAt b1 0;simp only [List.getElem?_toArray,List.getElem?_cons_zero] at k0))
  go_returns
  exact ⟨⟨_,rfl⟩,hP⟩
 ·obtain rfl:n=0:=by omega
  have e0:Hid (pass st 0=bump st):=by show _=_;simp [pass]
  have P0:Popped base w a (.slice vo st.length vcap) st w (.slice vo st.length vcap) st:=⟨h,Kept.refl _ _,fun k hk=>hk,rfl⟩
  clear h
  go_enter Tryz.func167,Tryz.ntmps167
  go_wp2
  go_loopw [4] (fun tp wr=>∃ v' st', tp=.int .i64 ((st'.length:Int)-1)∧Popped base w a (.slice vo st.length vcap) st wr v' st') (fun tp _=>(intOf tp+1).toNat)
  case atStart=>exact ⟨_,st,rfl,P0⟩
  case round=>
   obtain ⟨v', st', rfl,hP⟩:=hrel
   cases st' with
   | nil=>
    have e1:bump st=[]:=by have:=hP.eq.out;rw [← this];rfl
    have fin:Passed base w a (.slice vo st.length vcap) (pass st 0) wr:=by
     rw [e0.out,e1]
     exact ⟨v', hP.tr,hP.k,fun k hk=>.inl (hP.f k hk)⟩
    clear hP e1
    go_wp2
    go_returns
    exact ⟨⟨_,rfl⟩,fin⟩
   | cons x r=>
    obtain ⟨j,n⟩:=x
    obtain ⟨g,cap,rfl,hga,q0,q1,q2,q3,q4,q5⟩:=hP.cells
    have hjn:=hP.tr.fine (j,n) (by simp)
    have hrl:=hP.tr.len
    obtain ⟨s1,s2⟩:=hP.step
    have hl1:(((j,n) :: r).length:Int)-1=(r.length:Int):=by simp
    rw [hl1]
    have i1:(0:Int)≤(r.length:Int):=by omega
    have i2:(r.length:Int)<((r.length+1:Nat):Int):=by omega
    simp only at hjn
    simp at hrl
    by_cases hj:j+1<n
    ·obtain ⟨t1,t2,t3⟩:=s1 hj
     have fin:Passed base w a (.slice vo st.length vcap) (pass st 0) (wr.setCell ⟨g,r.length * 2,none⟩ (.int .i64 ((j:Int)+1))):=by
      rw [e0.out]
      exact ⟨_,t1,t2,fun k hk=>.inl (t3 k hk)⟩
     have hji:(j:Int)+1<(n:Int):=by omega
     clear s1 s2 hP t1 t2 t3
     go_wp2
     go_quiet (fail)
     go_wp2
     go_returns
     exact ⟨⟨_,rfl⟩,fin.same ((Kept.refl _ _).drewN nq)⟩
    ·have hP2:=s2 hj
     have hji:¬ (j:Int)+1<(n:Int):=by omega
     have i3:(r.length:Int)≤(cap:Int):=by
      rcases hP.tr.row.2 with ⟨e,_⟩ | ⟨_,_,_,hv,_,_,hle,_⟩
      ·cases e
      ·simp only [Value.slice.injEq] at hv
       have:=hv.2.2
       simp at hle
       omega
     clear s1 s2 hP
     go_wp2
     go_quiet (fail)
     go_wp2
     have hP3:=hP2.same ((Kept.refl _ _).drewN nq)
     go_roundw
     case rel=>first | exact ⟨_,r,by go_num,hP3⟩ | ((repeat apply Exists.intro);exact ⟨⟨_,r,by go_num,hP3⟩,rfl⟩)
     case measure=>simp [intOf]
end Go.Proofs.YtdhiiicppcgkbaaGreat
namespace Go.Proofs.YtdhiiicppcgkbaaGreat
set_option maxRecDepth 100000
set_option linter.unusedVariables false
open Go.RowKit
attribute [local go_sem ↓] Go.wp_at_zero Go.wp_at_succ
def flatP (ps:List (Nat × Nat)):List Int:=ps.flatMap (fun r=>[(r.1:Int),(r.2:Int)])
def pairsI (ps:List (Nat × Nat)):List Int:=flatP ps.reverse
theorem flatP_len (ps:List (Nat × Nat)):(flatP ps).length=2 * ps.length:=by
 induction ps with
 | nil=>rfl
 | cons r ps ih=>simp [flatP] at ih ⊢;omega
theorem flatP_append (a b:List (Nat × Nat)):flatP (a++b)=flatP a++flatP b:=by simp [flatP]
theorem pairsI_len (ps:List (Nat × Nat)):(pairsI ps).length=2 * ps.length:=by rw [pairsI,flatP_len,List.length_reverse]
theorem pairsI_cons (y x:Nat) (ps:List (Nat × Nat)):pairsI ((y,x) :: ps)=pairsI ps ++ [(y:Int),(x:Int)]:=by
 unfold pairsI;rw [List.reverse_cons,flatP_append];rfl
theorem pairsI_more (a ps:List (Nat × Nat)):pairsI (a++ps)=pairsI ps++flatP a.reverse:=by
 unfold pairsI;rw [List.reverse_append,flatP_append]
theorem zip_take {l m:List Nat} (h:l.length=m.length) {i:Nat} (hi:i<l.length):flatP ((l.zip m).take (i+1))=flatP ((l.zip m).take i) ++ [(l[i]:Int),(m[i]'(by omega):Int)]:=by
 rw [List.take_add_one,zip_at h hi,flatP_append];rfl
def NAt (L:List Sym) (ap:Bool) (B:NB) (w:World) (T J:List Int) (ld:Int→Int):Prop:=∃ up rep cl ρ,NC L B w T J up rep∧NR ap J up rep cl ρ ld
theorem NAt.kept {L:List Sym} {ap:Bool} {S:Nat→Prop} {w w' : World} {B:NB} {T J:List Int} {ld:Int→Int} (h:NAt L ap B w T J ld) (hk:Kept S w w') (hs:∀ k,k<B.top→¬ S k):NAt L ap B w' T J ld:=by
 obtain ⟨up,rep,cl,ρ,h1,h2⟩:=h
 exact ⟨up,rep,cl,ρ,h1.kept hk hs,h2⟩
structure NRel (L:List Sym) (ap:Bool) (B:NB) (T J:List Int) (res:Option (Int→Int)) (w0:World) (k:Nat) (wr:World) (v:Value) (ld:Int→Int) (ps:List (Nat × Nat)):Prop where
 u:NOk L J res k ld ps
 j:NAt L ap B wr T J ld
 row:Row w0.heap.size wr v (pairsI ps)
 kept:Kept B.Two w0 wr
def NEnd (L:List Sym) (ap:Bool) (B:NB) (T J:List Int) (res:Option (Int→Int)) (w:World) (e:Ending) (w' : World):Prop:=(∀ ld', res=some ld' → e=.returned (.bool true)∧NAt L ap B w' T J ld')∧(res=none→e=.returned (.bool false))∧Kept B.Two w w'
theorem net_step {L:List Sym} {ap:Bool} {w:World} {B:NB} {T J:List Int} {up:Nat→Nat} {rep:Nat→Int} {cl ρ:Nat→Nat} {ld:Int→Int} (h:NC L B w T J up rep) (hr:NR ap J up rep cl ρ ld) {x y:Nat} (hx:x<J.length) (hy:y<J.length) (hne:cl x≠cl y) :
  (rep (cl x)<0→ld x<0)∧(¬ rep (cl x)<0→ld x=rep (cl x))∧(rep (cl y)<0→ld y<0)∧(¬ rep (cl y)<0→ld y=rep (cl y)) ∧
  (rep (cl y)<0→NAt L ap B ((w.setCell ⟨B.ub,cl x,none⟩ (.int .i64 (cl y:Int))).setCell ⟨B.rb,cl y,none⟩ (.int .i64 (rep (cl x)))) T J (if ld x<0 then un (ld x) (ld y) ld else un (ld y) (ld x) ld)) ∧
  (¬ rep (cl y)<0→NAt L ap B (w.setCell ⟨B.ub,cl x,none⟩ (.int .i64 (cl y:Int))) T J (un (ld x) (ld y) ld)) ∧
  Kept B.Two w (w.setCell ⟨B.ub,cl x,none⟩ (.int .i64 (cl y:Int)))∧Kept B.Two w ((w.setCell ⟨B.ub,cl x,none⟩ (.int .i64 (cl y:Int))).setCell ⟨B.rb,cl y,none⟩ (.int .i64 (rep (cl x)))):=by
 have vx:VNode ap J.length x:=.inl hx
 have vy:VNode ap J.length y:=.inl hy
 have lx:=hr.led x vx
 have ly:=hr.led y vy
 rw [pt_place hx] at lx
 rw [pt_place hy] at ly
 have rx:=hr.reps _ (hr.cnode x vx) (hr.idem x vx)
 have ry:=hr.reps _ (hr.cnode y vy) (hr.idem y vy)
 have x1:rep (cl x)<0→ld x<0:=fun f=>by
  rw [lx,if_pos f]
  rcases rx with ⟨_,a⟩ | ⟨p,a,_⟩
  ·exact pt_neg a
  ·omega
 have y1:rep (cl y)<0→ld y<0:=fun f=>by
  rw [ly,if_pos f]
  rcases ry with ⟨_,a⟩ | ⟨p,a,_⟩
  ·exact pt_neg a
  ·omega
 have x2:¬ rep (cl x)<0→ld x=rep (cl x):=fun f=>by rw [lx,if_neg f]
 have y2:¬ rep (cl y)<0→ld y=rep (cl y):=fun f=>by rw [ly,if_neg f]
 have k1:Kept B.Two w (w.setCell ⟨B.ub,cl x,none⟩ (.int .i64 (cl y:Int))):=Kept.setCell (S:=B.Two) (p:=⟨B.ub,cl x,none⟩) (Kept.refl _ _) (fun _=>.inl rfl) _
 have k1' : Kept (fun k=>k=B.ub) w (w.setCell ⟨B.ub,cl x,none⟩ (.int .i64 (cl y:Int))):=Kept.setCell (S:=fun k=>k=B.ub) (p:=⟨B.ub,cl x,none⟩) (Kept.refl _ _) (fun _=>rfl) _
 have k2:Kept B.Two w ((w.setCell ⟨B.ub,cl x,none⟩ (.int .i64 (cl y:Int))).setCell ⟨B.rb,cl y,none⟩ (.int .i64 (rep (cl x)))):=k1.setCell (p:=⟨B.rb,cl y,none⟩) (fun _=>.inr rfl) _
 have k2' : Kept (fun k=>k=B.rb) (w.setCell ⟨B.ub,cl x,none⟩ (.int .i64 (cl y:Int))) ((w.setCell ⟨B.ub,cl x,none⟩ (.int .i64 (cl y:Int))).setCell ⟨B.rb,cl y,none⟩ (.int .i64 (rep (cl x)))):=Kept.setCell (S:=fun k=>k=B.rb) (p:=⟨B.rb,cl y,none⟩) (Kept.refl _ _) (fun _=>rfl) _
 obtain ⟨cl', ρ', hj⟩:=hr.join (hr.cnode x vx) (hr.cnode y vy) (hr.idem x vx) (hr.idem y vy) hne
 have u1:Nums (w.setCell ⟨B.ub,cl x,none⟩ (.int .i64 (cl y:Int))) B.ub (J.length+200) (fun i=>((if i=cl x then cl y else up i:Nat):Int)):=(h.ups.set (cl x) (cl y:Int)).congr (fun i _=>by by_cases e:i=cl x <;> simp [e])
 have r1:=h.reps.kept k1' (fun e=>h.n4 e.symm)
 refine ⟨x1,x2,y1,y2,fun hg=>?_,fun hg=>?_,k1,k2⟩
 ·refine ⟨_,fun k=>if k=cl y then (if rep (cl y)<0 then rep (cl x) else rep (cl y)) else rep k,cl', ρ', h.two k2 (u1.kept k2' h.n4) ((r1.set (cl y) (rep (cl x))).congr (fun i _=>?_)),?_⟩
  ·simp only [if_pos hg]
  ·have ly' : ld y=ptN ap J.length (cl y):=by rw [ly,if_pos hg]
   have hE:(if ld x<0 then un (ld x) (ld y) ld else un (ld y) (ld x) ld)=(if rep (cl x)<0 then un (ptN ap J.length (cl x)) (if rep (cl y)<0 then ptN ap J.length (cl y) else rep (cl y)) ld else if rep (cl y)<0 then un (ptN ap J.length (cl y)) (rep (cl x)) ld else un (rep (cl x)) (rep (cl y)) ld):=by
    by_cases hf:rep (cl x)<0
    ·have lx' : ld x=ptN ap J.length (cl x):=by rw [lx,if_pos hf]
     rw [if_pos (x1 hf),if_pos hf,if_pos hg,lx', ly']
    ·have lx' := x2 hf
     have hn:¬ ld x<0:=by
      rcases rx with ⟨a,_⟩ | ⟨p,a,_⟩
      ·omega
      ·omega
     rw [if_neg hn,if_neg hf,if_pos hg,lx', ly']
   rw [hE];exact hj
 ·refine ⟨_,fun k=>if k=cl y then (if rep (cl y)<0 then rep (cl x) else rep (cl y)) else rep k,cl', ρ', h.two k1 u1 (r1.congr (fun i _=>?_)),?_⟩
  ·by_cases e:i=cl y
   ·simp only [e,if_true,if_neg hg]
   ·simp only [e,if_false]
  ·have ly' := y2 hg
   have hE:un (ld x) (ld y) ld=(if rep (cl x)<0 then un (ptN ap J.length (cl x)) (if rep (cl y)<0 then ptN ap J.length (cl y) else rep (cl y)) ld else if rep (cl y)<0 then un (ptN ap J.length (cl y)) (rep (cl x)) ld else un (rep (cl x)) (rep (cl y)) ld):=by
    by_cases hf:rep (cl x)<0
    ·have lx' : ld x=ptN ap J.length (cl x):=by rw [lx,if_pos hf]
     rw [if_pos hf,if_neg hg,lx', ly']
    ·have lx' := x2 hf
     rw [if_neg hf,if_neg hg,lx', ly']
   rw [hE];exact hj
theorem info_intN:(Tryz.prog.info? 3).map (fun i=>(i.zero,i.size,i.bytes))=some (some (.int .i64 0),1,8):=by kernel_rfl
theorem pair_row {base:Nat} {w:World} {v:Value} {y x:Nat} {ps:List (Nat × Nat)} (h:Row base w v (pairsI ((y,x) :: ps))):∃ g cap,v=.slice (some ⟨g,0,none⟩) (2 * ps.length+2) cap∧base≤g∧g<w.heap.size∧2 * ps.length+2≤cap∧w.cell? ⟨g,2 * ps.length,none⟩=some (.int .i64 (y:Int))∧w.cell? ⟨g,2 * ps.length+1,none⟩=some (.int .i64 (x:Int))∧Row base w (.slice (some ⟨g,0,none⟩) (2 * ps.length) cap) (pairsI ps):=by
 have hl:(pairsI ((y,x) :: ps)).length=2 * ps.length+2:=by rw [pairsI_len,List.length_cons];omega
 obtain ⟨g,cap,hv,hb,hlt⟩:=World.ownsRow.form h (by rw [hl];omega)
 rw [hl] at hv
 have hcap:2 * ps.length+2≤cap:=by
  rcases h.2 with ⟨e,_⟩ | ⟨g', cap', cur,hv', _,_,hle,_⟩
  ·rw [hv] at e;cases e
  ·rw [hv,hl] at hv'
   simp only [Value.slice.injEq] at hv'
   have:=hv'.2.2
   rw [hl] at hle;omega
 subst hv
 have h' : w.ownsRow base 3 1 (.slice (some ⟨g,0,none⟩) (2 * ps.length+2) cap) (2 * ps.length+2) (iv (pairsI ps) ++ [.int .i64 (y:Int),.int .i64 (x:Int)]):=by
  have:iv (pairsI ps) ++ [Value.int .i64 (y:Int),.int .i64 (x:Int)]=iv (pairsI ((y,x) :: ps)):=by rw [pairsI_cons,iv_append];rfl
  have h0:w.ownsRow base 3 1 (.slice (some ⟨g,0,none⟩) (2 * ps.length+2) cap) (pairsI ((y,x) :: ps)).length (iv (pairsI ((y,x) :: ps))):=h
  rw [hl] at h0
  rw [this];exact h0
 have l2:(iv (pairsI ps)).length=2 * ps.length:=by rw [iv_length,pairsI_len]
 refine ⟨g,cap,rfl,hb,hlt,hcap,?_,?_,?_⟩
 ·rw [h'.cellAt _ (by omega),List.getElem?_append_right (by omega),l2];simp
 ·rw [h'.cellAt _ (by omega),List.getElem?_append_right (by omega),l2];simp
 ·have:=row_take (m:=2 * ps.length) h' (by omega)
  rw [Nat.mul_one,List.take_left' l2] at this
  show w.ownsRow base 3 1 _ (pairsI ps).length _
  rw [pairsI_len];exact this
theorem pair_new (w:World) (x y:Nat):Row w.heap.size (w.alloc (.cells #[.int .i64 (x:Int),.int .i64 (y:Int)] 3)) (.slice (some ⟨w.heap.size,0,none⟩) 2 2) (pairsI [(x,y)]):=
 ⟨rfl,.inr ⟨w.heap.size,2,_,rfl,Nat.le_refl _,heap_alloc_new _ _,Nat.le_refl _,by decide,rfl,rfl⟩⟩
theorem kids_ints {L:List Sym} {w:World} {B:NB} {T J:List Int} {up:Nat→Nat} {rep:Nat→Int} (h:NC L B w T J up rep) {p:Nat} (hp:p<J.length) {k:Nat} (hk:k<(kidsL L J p).length):∃ gb off gc,w.cell? ⟨B.ab,p,none⟩=some (.slice (some ⟨gb,off,none⟩) (kidsL L J p).length gc)∧w.cell? ⟨gb,off+k,none⟩=some (.int .i64 ((kidsL L J p)[k]:Nat))∧gb<B.top:=by
 obtain ⟨go,gc,a1,a2,a3⟩:=h.args p hp
 obtain ⟨gb,off,rfl,b1,b2⟩:=a2.get (i:=k) (by simpa using hk)
 exact ⟨gb,off,gc,a1,by simpa using b2,(a3 _ rfl).2⟩
theorem net_up {L:List Sym} {w:World} {B:NB} {T J:List Int} {up:Nat→Nat} {rep:Nat→Int} (h:NC L B w T J up rep) (p q:Nat):NC L B (w.setCell ⟨B.ub,p,none⟩ (.int .i64 (q:Int))) T J (fun i=>if i=p then q else up i) rep:=by
 have k1:Kept B.Two w (w.setCell ⟨B.ub,p,none⟩ (.int .i64 (q:Int))):=Kept.setCell (S:=B.Two) (p:=⟨B.ub,p,none⟩) (Kept.refl _ _) (fun _=>.inl rfl) _
 have k1' : Kept (fun k=>k=B.ub) w (w.setCell ⟨B.ub,p,none⟩ (.int .i64 (q:Int))):=Kept.setCell (S:=fun k=>k=B.ub) (p:=⟨B.ub,p,none⟩) (Kept.refl _ _) (fun _=>rfl) _
 exact h.two k1 ((h.ups.set p (q:Int)).congr (fun i _=>by by_cases e:i=p <;> simp [e])) (h.reps.kept k1' (fun e=>h.n4 e.symm))
set_option maxHeartbeats 8000000 in
theorem njoin_any {L:List Sym} {ap:Bool} {w:World} {B:NB} {T J:List Int} {ld:Int→Int} {res:Option (Int→Int)} (h:NAt L ap B w T J ld) {a m n:Nat} (hJ:J.length≤4000) (hT:∀ p:Nat,p<J.length→0≤at' J p→at' T p=at' J p) (htop:B.top≤w.heap.size) (hu:NOk L J res n ld [(a,m)]) :
  Calls Tryz.prog 185 #[.pointer (some ⟨B.nb,0,none⟩),.int .i64 (a:Int),.int .i64 (m:Int)] w (NEnd L ap B T J res w):=by
 obtain ⟨i0,hi0,hz0,hz1,hz2⟩:=info_parts info_intN
 have U0:NRel L ap B T J res w n (w.alloc (.cells #[.int .i64 (a:Int),.int .i64 (m:Int)] 3)) (.slice (some ⟨w.heap.size,0,none⟩) 2 2) ld [(a,m)]:=
  ⟨hu,h.kept (S:=fun _=>False) (Kept.alloc (Kept.refl _ w) _) (fun _ _ f=>f),pair_new w a m,Kept.alloc (Kept.refl _ w) _⟩
 have htb:∀ k,w.heap.size≤k→¬ B.Two k:=by
  obtain ⟨up,rep,cl,ρ,hC,_⟩:=h
  intro k hk f
  rcases f with e | e
  ·have:=hC.t4;omega
  ·have:=hC.t5;omega
 clear h hu
 go_enter Tryz.func185,Tryz.ntmps185
 go_wp2_with fail
 go_loopg [7] n (fun k s7 wr=>∃ ld ps,NRel L ap B T J res w k wr s7 ld ps)
 case atStart=>exact ⟨ld,_,U0⟩
 case round=>
  clear U0
  obtain ⟨ld,ps,hU⟩:=hrel
  cases ps with
  | nil=>
   obtain ⟨vo,vcap,hvv⟩:=row_shape hU.row
   have hl0:(pairsI []).length=0:=rfl
   rw [hl0] at hvv
   subst hvv
   have e1:=hU.u.nil
   have fin:NEnd L ap B T J res w (.returned (.bool true)) wr:=⟨fun ld' e=>⟨rfl,by rw [e1] at e;cases e;exact hU.j⟩,fun e=>(by rw [e1] at e;cases e),hU.kept⟩
   clear hU e1
   go_wp2_with fail
   go_returns
   exact fin
  | cons r ps=>
   obtain ⟨y,x⟩:=r
   obtain ⟨g,cap,rfl,hg1,hg2,hcap,q0,q1,hrow⟩:=pair_row hU.row
   obtain ⟨up,rep,cl,ρ,hC,hR⟩:=hU.j
   obtain ⟨t2,t1⟩:=hU.u.pairs (y,x) (by simp)
   simp only at t1 t2
   have vx:VNode ap J.length x:=.inl t1
   have vy:VNode ap J.length y:=.inl t2
   have cX:=class_any hC hR vx
   have cY:=class_any hC hR vy
   obtain ⟨k', hk', S1,S2,S3,S4,S5⟩:=hU.u.step
   have hpl:2 * ps.length≤40000000:=by
    have:=hU.u.len
    rw [List.length_cons] at this
    have h2:(J.length+1) * J.length≤4001 * 4000:=Nat.mul_le_mul (by omega) hJ
    omega
   have hK:=hU.kept
   obtain ⟨l,hl⟩:∃ l,2 * ps.length=l:=⟨_,rfl⟩
   rw [hl] at q0 q1 hcap hpl hrow ⊢
   have j0:(0:Int)≤(l:Int):=by omega
   have j1:(l:Int)+1<((l+2:Nat):Int):=by omega
   have j2:(l:Int)<((l+2:Nat):Int):=by omega
   have j3:(l:Int)≤(cap:Int):=by omega
   have j4:(l:Int)≤40000000:=by omega
   by_cases hne:cl x=cl y
   ·have hN:=S1 (by have:=(hR.eq vx vy).1 hne;rwa [pt_place t1,pt_place t2] at this)
    have hrow' : Row w.heap.size wr (.slice (some ⟨g,0,none⟩) l cap) (pairsI ps):=hrow
    have hj:NAt L ap B wr T J ld:=⟨up,rep,cl,ρ,hC,hR⟩
    rw [hne] at cX
    clear S1 S2 S3 S4 S5 hC hR hrow hU
    go_upto_region 4 with (first | (go_at_call 192;refine cX.mono ?_;rintro e w' ⟨rfl,hw'⟩;obtain rfl:wr=w' := hw'.symm))
    go_wp2_with (first | (go_at_call 192;refine cY.mono ?_;rintro e w' ⟨rfl,hw'⟩;obtain rfl:wr=w' := hw'.symm))
    go_roundg k'
    case measure=>omega
    case rel=>exact ⟨ld,ps,hN,hj,hrow', hK⟩
   ·obtain ⟨x1,x2,y1,y2,NA,NBB,K1,K2⟩:=net_step hC hR t1 t2 hne
    have hxy:ld x≠ld y:=fun e=>hne ((hR.eq vx vy).2 (by rw [pt_place t1,pt_place t2];exact e))
    have N5:=net_up hC (cl x) (cl y)
    have lx:=vn_lt (hR.cnode x vx)
    have ly:=vn_lt (hR.cnode y vy)
    have rx:=hR.reps _ (hR.cnode x vx) (hR.idem x vx)
    have ry:=hR.reps _ (hR.cnode y vy) (hR.idem y vy)
    obtain ⟨c1,c2,c3,c4⟩:=hC.cells
    have f1:=(hC.reps.cell lx).1
    have f2:=(hC.reps.cell ly).1
    obtain ⟨u1,u2⟩:=hC.ups.cell lx
    obtain ⟨f,hf⟩:∃ f,rep (cl x)=f:=⟨_,rfl⟩
    obtain ⟨h', hh⟩:∃ f,rep (cl y)=f:=⟨_,rfl⟩
    have N5r:=N5.reps.cell ly
    rw [hf] at x1 x2 NA f1 rx K2
    rw [hh] at y1 y2 NA NBB f2 ry N5r
    have lx' := hU.u.ok.sym x (part_nat t1)
    have ly' := hU.u.ok.sym y (part_nat t2)
    have part_x:=(hU.u.ok.part x (part_nat t1)).2
    have part_y:=(hU.u.ok.part y (part_nat t2)).2
    obtain ⟨P,hP⟩:∃ P,cl x=P:=⟨_,rfl⟩
    obtain ⟨Q,hQ⟩:∃ Q,cl y=Q:=⟨_,rfl⟩
    rw [hP] at cX NA NBB K1 K2 N5 f1 u1 u2 lx N5r
    rw [hQ] at cY NA NBB K1 K2 N5 f2 ly N5r
    have hPQ:¬ P=Q:=by rw [← hP,← hQ];exact hne
    have hPQi:¬ (P:Int)=(Q:Int):=by omega
    have j5:(0:Int)≤(P:Int):=by omega
    have j6:(P:Int)<((J.length+200:Nat):Int):=by omega
    have j7:(0:Int)≤(Q:Int):=by omega
    have j8:(Q:Int)<((J.length+200:Nat):Int):=by omega
    obtain ⟨e1,e2,e3,e4⟩:=N5.cells
    have hrowS:∀ w6,Kept B.Two wr w6→Row w.heap.size w6 (.slice (some ⟨g,0,none⟩) l cap) (pairsI ps):=fun w6 hk=>hk.row hrow (fun k e=>by simp [Value.ownBlock] at e;subst e;exact htb g hg1)
    have HRS:Hid (∀ w6,Kept B.Two wr w6→Row w.heap.size w6 (.slice (some ⟨g,0,none⟩) l cap) (pairsI ps)):=hrowS
    clear hrowS hrow S1 hC hR hf hh hP hQ hne vx vy N5
    go_upto_region 4 with (first | (go_at_call 192;refine cX.mono ?_;rintro e w' ⟨rfl,hw'⟩;obtain rfl:wr=w' := hw'.symm))
    go_upto_region 7 with (first | (go_at_call 192;refine cY.mono ?_;rintro e w' ⟨rfl,hw'⟩;obtain rfl:wr=w' := hw'.symm))
    go_upto_region 10 with fail
    clear cX cY q0 q1 f1 f2 c1 c2 c3 c4 u1 u2
    obtain ⟨w5,hw5⟩:∃ w5,wr.setCell ⟨B.ub,P,none⟩ (.int .i64 (Q:Int))=w5:=⟨_,rfl⟩
    rw [hw5] at NA NBB K1 K2 e1 e2 e3 e4 N5r ⊢
    obtain ⟨n5a,n5b⟩:=N5r
    by_cases hg:h' < 0
    ·have hN:=NA hg
     have hRw:=HRS.out _ K2
     have hK6:=hK.trans K2 (fun _ _ f=>f)
     by_cases hf:f<0
     ·have hlx:=x1 hf
      rw [if_pos hlx] at hN
      have hNO:=S2 hxy hlx
      clear S2 S3 S4 S5 NA NBB HRS
      go_wp2_with fail
      go_roundg k'
      case measure=>omega
      case rel=>exact ⟨_,ps,hNO,hN,hRw,hK6⟩
     ·have hlx:¬ ld x<0:=by rw [x2 (by omega)];exact hf
      rw [if_neg hlx] at hN
      have hNO:=S3 hxy (by omega) (y1 hg)
      clear S2 S3 S4 S5 NA NBB HRS
      go_wp2_with fail
      go_roundg k'
      case measure=>omega
      case rel=>exact ⟨_,ps,hNO,hN,hRw,hK6⟩
    ·have hN:=NBB (by omega)
     have hRw:=HRS.out _ K1
     have hK6:=hK.trans K1 (fun _ _ f=>f)
     by_cases hf:f<0
     ·have hlx:=x1 hf
      have hNO:=S2 hxy hlx
      clear S2 S3 S4 S5 NA NBB HRS
      go_wp2_with fail
      go_roundg k'
      case measure=>omega
      case rel=>exact ⟨_,ps,hNO,hN,hRw,hK6⟩
     ·have ex:=x2 (by omega)
      have ey:=y2 (by omega)
      obtain ⟨fn,rfl⟩:∃ fn:Nat,f=(fn:Int):=⟨f.toNat,by omega⟩
      obtain ⟨gn,rfl⟩:∃ gn:Nat,h' = (gn:Int):=⟨h'.toNat,by omega⟩
      have hfl:fn<J.length:=by rw [ex] at part_x;omega
      have hgl:gn<J.length:=by rw [ey] at part_y;omega
      rw [ex] at lx' S4 S5 hxy hN
      rw [ey] at ly' S4 S5 hxy hN
      have sx:=lx' (by omega)
      have sy:=ly' (by omega)
      obtain ⟨up6,rep6,cl6,ρ6,hC6,hR6⟩:=id hN
      have tf:=(hC6.nums.cell hfl).1
      have tg:=(hC6.nums.cell hgl).1
      rw [hT fn hfl sx] at tf
      rw [hT gn hgl sy] at tg
      have j9:(0:Int)≤(fn:Int):=by omega
      have j10:(fn:Int)<(J.length:Int):=by omega
      have j11:(0:Int)≤(gn:Int):=by omega
      have j12:(gn:Int)<(J.length:Int):=by omega
      by_cases h4:at' J (fn:Int)=at' J (gn:Int)
      ·have hNO:=S5 hxy (by omega) (by omega) h4
       rw [Int.toNat_natCast,Int.toNat_natCast] at hNO
       have h4' : (at' J (fn:Int) == at' J (gn:Int))=true:=by simpa using h4
       clear S2 S3 S4 S5 NA NBB HRS K1 K2 hC6 hR6
       go_upto_region 13 with fail
       go_quiet (fail)
       have hN7:NAt L ap B (w5.drewN nq) T J (un (fn:Int) (gn:Int) ld):=hN.kept (S:=fun _=>False) ((Kept.refl _ w5).drewN nq) (fun _ _ f=>f)
       have hR7:Row w.heap.size (w5.drewN nq) (.slice (some ⟨g,0,none⟩) l cap) (pairsI ps):=Kept.row (S:=fun _=>False) ((Kept.refl _ w5).drewN nq) hRw (fun _ _ f=>f)
       have hK7:=hK6.drewN nq
       obtain ⟨w7,hw7⟩:∃ w7,w5.drewN nq=w7:=⟨_,rfl⟩
       rw [hw7] at hN7 hR7 hK7 ⊢
       have hA:(kidsL L J fn).length=(kidsL L J gn).length:=by rw [show (kidsL L J fn).length=_ from starts_length _ _ _ _,show (kidsL L J gn).length=_ from starts_length _ _ _ _,h4]
       have hAl:(kidsL L J fn).length≤4000:=by
        have h1:=starts_le (kids_forest hNO.trs hfl)
        have h2:=(hNO.trs.lt hfl).2
        rw [show (kidsL L J fn).length=_ from starts_length _ _ _ _];omega
       have HNO:Hid (NOk L J res k' (un (fn:Int) (gn:Int) ld) (kidPairs L J fn gn++ps)):=hNO
       have HEND:Hid (pairsI (kidPairs L J fn gn++ps)=pairsI ps++flatP ((kidsL L J fn).zip (kidsL L J gn))):=by rw [pairsI_more];unfold kidPairs;rw [List.reverse_reverse];rfl
       have hpsl:(pairsI ps).length=l:=by rw [pairsI_len];exact hl
       clear hw7 hN hRw hK6 tf tg h4' e1 e2 e3 e4 n5a n5b hNO hU
       go_wp2_with fail
       go_loopw [7,12] (fun s7 s12 wx=>∃ k:Nat,s12=.int .i64 (k:Int)∧k≤(kidsL L J fn).length∧Row w.heap.size wx s7 (pairsI ps++flatP (((kidsL L J fn).zip (kidsL L J gn)).take k))∧NAt L ap B wx T J (un (fn:Int) (gn:Int) ld)∧Kept B.Two w wx) (fun _ s12 _=>(kidsL L J fn).length-(intOf s12).toNat)
       case atStart=>exact ⟨0,rfl,Nat.zero_le _,by simpa [flatP] using hR7,hN7,hK7⟩
       case round=>
        clear hN7 hR7 hK7
        obtain ⟨k,rfl,hk,hR7,hN7,hK7⟩:=hrel
        obtain ⟨up7,rep7,cl7,ρ7,hC7,hR8⟩:=id hN7
        obtain ⟨e1,e2,e3,e4⟩:=hC7.cells
        obtain ⟨vo,vc,hvv⟩:=row_shape hR7
        have hzl:(((kidsL L J fn).zip (kidsL L J gn)).take k).length=k:=by rw [List.length_take,zip_len _ _ hA];omega
        have hlen7:(pairsI ps++flatP (((kidsL L J fn).zip (kidsL L J gn)).take k)).length=l+2 * k:=by rw [List.length_append,flatP_len,hzl,hpsl]
        rw [hlen7] at hvv
        subst hvv
        by_cases hkl:k<(kidsL L J fn).length
        ·obtain ⟨gb,go,gc,a1,a2,a3⟩:=kids_ints hC7 hfl hkl
         obtain ⟨hb', ho,hc', b1,b2,b3⟩:=kids_ints hC7 hgl (k:=k) (by omega)
         have z1:(0:Int)≤(k:Int):=by omega
         have z2:(k:Int)<((kidsL L J fn).length:Int):=by omega
         have z3:(k:Int)<((kidsL L J gn).length:Int):=by omega
         have z4:(k:Int)<4000:=by omega
         obtain ⟨A1,hA1⟩:∃ A1,(((kidsL L J fn)[k]:Nat):Int)=A1:=⟨_,rfl⟩
         obtain ⟨A2,hA2⟩:∃ A2,(((kidsL L J gn)[k]'(by omega):Nat):Int)=A2:=⟨_,rfl⟩
         rw [hA1] at a2
         rw [hA2] at b2
         have hrow7:wr.ownsRow w.heap.size 3 1 (.slice vo (l+2 * k) vc) (l+2 * k) (iv (pairsI ps++flatP (((kidsL L J fn).zip (kidsL L J gn)).take k))):=by
          have h0:wr.ownsRow w.heap.size 3 1 (.slice vo (l+2 * k) vc) (pairsI ps++flatP (((kidsL L J fn).zip (kidsL L J gn)).take k)).length (iv (pairsI ps++flatP (((kidsL L J fn).zip (kidsL L J gn)).take k))):=hR7
          rw [hlen7] at h0;exact h0
         have PE:Hid (∀ gg cap' w9,w9.ownsRow w.heap.size 3 1 (.slice (some ⟨gg,0,none⟩) (l+2 * k+2) cap') (l+2 * k+2) (iv (pairsI ps++flatP (((kidsL L J fn).zip (kidsL L J gn)).take k)) ++ [.int .i64 A1,.int .i64 A2])→(wr.alloc (.cells #[.int .i64 A1,.int .i64 A2] 3)).drew.grownBy w9 (Value.slice vo (l+2 * k) vc).ownBlock→Row w.heap.size w9 (.slice (some ⟨gg,0,none⟩) (l+2 * k+2) cap') (pairsI ps++flatP (((kidsL L J fn).zip (kidsL L J gn)).take (k+1)))∧NAt L ap B w9 T J (un (fn:Int) (gn:Int) ld)∧Kept B.Two w w9):=by
          intro gg cap' w9 hown hgrow
          have own:∀ q,(Value.slice vo (l+2 * k) vc).ownBlock=some q→w.heap.size≤q:=fun q e=>(World.ownsRow.lt hrow7 q e).1
          have kg:Kept (fun q=>(Value.slice vo (l+2 * k) vc).ownBlock=some q) wr w9:=Kept.grown (Kept.drew (Kept.alloc (Kept.refl _ wr) _)) hgrow (fun q e _=>e)
          refine ⟨?_,hN7.kept kg (fun q hq e=>by have:=own q e;omega),hK7.trans kg (fun q hq e=>by have:=own q e;omega)⟩
          have el:(pairsI ps++flatP (((kidsL L J fn).zip (kidsL L J gn)).take (k+1))).length=l+2 * k+2:=by
           rw [List.length_append,flatP_len,List.length_take,zip_len _ _ hA,hpsl];omega
          show w9.ownsRow w.heap.size 3 1 _ (pairsI ps++flatP (((kidsL L J fn).zip (kidsL L J gn)).take (k+1))).length _
          rw [el,zip_take hA hkl,← List.append_assoc,iv_append,hA1,hA2]
          exact hown
         have hb9:w.heap.size≤(wr.alloc (.cells #[.int .i64 A1,.int .i64 A2] 3)).drew.heap.size:=by
          have:=hK7.size
          show w.heap.size≤(wr.alloc (.cells #[.int .i64 A1,.int .i64 A2] 3)).heap.size
          rw [World.size_alloc];omega
         have hn1:l+2 * k+2≤maxLen:=by unfold maxLen;omega
         have hn2:(l+2 * k+2) * 8≤140737488355328:=by omega
         clear hC7 hR8 hN7 hR7 hK7 hzl hlen7 hA1 hA2 HNO HEND
         go_upto_region 18 with fail
         go_region_law (refine step_append_lies _ (by rfl) _ _ 22 (by rfl) w.heap.size 3 i0 _ 1 8 Tryz.underlying22 hi0 hz0 hz1 hz2 rfl (by omega) (.slice vo (l+2 * k) vc) (l+2 * k) (iv (pairsI ps++flatP (((kidsL L J fn).zip (kidsL L J gn)).take k))) (by rfl) ((hrow7.alloc _).drew) ⟨wr.heap.size,0,none⟩ 2 2 [.int .i64 A1,.int .i64 A2] (by rfl) (by rfl) (World.news_of_block (cs:=#[.int .i64 A1,.int .i64 A2]) (t:=3) (fr:=(0,0)) (heap_alloc_new wr _)) (by simp [Value.oneCell']) (by omega) hn1 hn2 hb9 _ rfl ?_;intro gg cap' w9 hown hgrow hat hlt;obtain ⟨p1,p2,p3⟩:=PE.out gg cap' w9 hown hgrow)
         all_goals
          go_wp2_with fail
          go_roundw
          case rel=>exact ⟨k+1,by go_num,by omega,p1,p2,p3⟩
          case measure=>simp [intOf];omega
        ·have hke:k=(kidsL L J fn).length:=by omega
         have z2:¬ (k:Int)<((kidsL L J fn).length:Int):=by omega
         have hfin:Row w.heap.size wr (.slice vo (l+2 * k) vc) (pairsI (kidPairs L J fn gn++ps)):=by
          rw [HEND.out]
          have e:((kidsL L J fn).zip (kidsL L J gn)).take k=(kidsL L J fn).zip (kidsL L J gn):=List.take_of_length_le (by rw [zip_len _ _ hA];omega)
          rw [e] at hR7
          exact hR7
         have hNOx:=HNO.out
         obtain ⟨go,gc,a1,a2,a3⟩:=hC7.args fn hfl
         have HFIN:Hid (NRel L ap B T J res w k' wr (.slice vo (l+2 * k) vc) (un (fn:Int) (gn:Int) ld) (kidPairs L J fn gn++ps)):=⟨hNOx,hN7,hfin,hK7⟩
         clear hC7 hR8 hN7 hR7 hK7 hzl hlen7 hke HNO HEND hfin hNOx
         go_wp2_with fail
         go_roundg k'
         case measure=>omega
         case rel=>exact ⟨_,_,HFIN.out⟩
      ·have hres:=S4 hxy (by omega) (by omega) h4
       have fin:Hid (∀ n,NEnd L ap B T J res w (.returned (.bool false)) (w5.drewN n)):=fun n=>⟨fun ld' e=>(by rw [hres] at e;cases e),fun _=>rfl,hK6.drewN n⟩
       clear S2 S3 S4 S5 NA NBB HRS hN hC6 hR6 hres
       go_upto_region 13 with fail
       go_quiet (fail)
       go_wp2_with fail
       go_returns
       exact fin.out _
end Go.Proofs.YtdhiiicppcgkbaaGreat
