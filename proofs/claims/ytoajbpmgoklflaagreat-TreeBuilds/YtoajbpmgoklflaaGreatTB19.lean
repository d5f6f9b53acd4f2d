import Derived.Test.YtoajbpmgoklflaaGreatTB18
import Derived.Test.YtoajbpmgoklflaaGreatTB15
import Derived.Test.YtoajbpmgoklflaaGreatTB14
import Derived.Test.YtoajbpmgoklflaaGreatTB12
namespace Go.Proofs.YtoajbpmgoklflaaGreat
set_option maxRecDepth 100000
set_option linter.unusedVariables false
open Go.RowKit
attribute [local go_sem ↓] Go.wp_at_zero Go.wp_at_succ
theorem wpList_kid {w0 W:World} {ops:Array Oper} {rest:List Oper} {o:Oper} {a:Act} {Q:Exit→Act→World→Prop} (hgd:o.guard=none) (s x:Operand)
  (ho:o.op=.call { callee:=.builtin .append,args:=#[s,x],argTypes:=#[33,33] })
  (base N:Nat) (vs:List Value) (v:Value) (hs:a.eval s=v) (hW:Same0 w0 W) (hr:w0.ownsRow base 89 5 v N vs) (A C D F G:Value) (q:Nat) (hx:a.eval x=.slice (some ⟨q,0,none⟩) 1 1) (hq:W.heap[q]? = some (.cells #[A,C,D,F,G] 89 (0,0))) (hA:A.oneCell' = true) (hC:C.oneCell' = true) (hD:D.oneCell' = true) (hF:F.oneCell' = true) (hG:G.oneCell' = true) (hb:base≤w0.heap.size) (hsz:N≤1000)
  (h:∀ g cap w', w'.ownsRow base 89 5 (.slice (some ⟨g,0,none⟩) (N+1) cap) (N+1) (vs ++ [A,C,D,F,G])→Kept (fun k=>v.ownBlock=some k) w0 w' → (v.ownBlock=some g∨w0.heap.size≤g)→wpList Tryz.prog ops Q rest (a.put o.dst (.slice (some ⟨g,0,none⟩) (N+1) cap)) w') :
  wpList Tryz.prog ops Q (o :: rest) a W:=by
 obtain ⟨i,hi,hz0,hz1,hz2⟩:=info_parts info_kid
 refine wpList_append_lies _ hgd s x 33 ho base 89 i _ 5 72 Tryz.underlying33 hi hz0 hz1 hz2 rfl (by decide) v N vs hs (hW.row hr (fun _ _ f=>f)) ⟨q,0,none⟩ 1 1 [A,C,D,F,G] hx rfl (World.news_of_block (cs:=#[A,C,D,F,G]) (t:=89) (fr:=(0,0)) hq) (by intro u hu;simp at hu;rcases hu with rfl | rfl | rfl | rfl | rfl <;> assumption) (by omega) (by unfold maxLen;omega) (by omega) (Nat.le_trans hb hW.size) W.heap.size rfl ?_
 intro g cap w' hown hgrow hat hlt
 exact h g cap w' hown (Kept.grown (Kept.mono hW (fun _ _ f=>f.elim)) hgrow (fun _ e _=>e)) (hat.imp id (fun e=>by have:=hW.size;omega))
def NodeOut {n:Nat} (w:World) (r:Except Int (Tr n)) (e:Ending) (w' : World):Prop:=
 match r with
 | .ok t=>∃ v,e=.returned (.tuple #[v,.int .i64 (-1)])∧CsB (fun b=>w.heap.size≤b) w' n v t∧Same0 w w'
 | .error z=>e=.returned (.tuple #[zeroC,.int .i64 z])∧0≤z∧Same0 w w'
def NodeIH (L:List Sym) (R:List Ru) (n:Nat):Prop:=∀ (w:World) (rv:Value) (mo tn so:Option Addr) (tc:Nat) (t:List Int) (rows:List Rw),NdD w L R n rv mo tn so tc t rows→∀ mc sc:Nat,
 Calls Tryz.prog 42 #[rv,.slice mo R.length mc,.slice tn t.length tc,.slice so rows.length sc] w (NodeOut w (growF L n (vpS L [] t) rows))
theorem res_put {w:World} {x0 x1 x2 x3:Value} (ww:World) (hk:Same0 (w.alloc zeroCs) ww):((((((ww.setCell ⟨w.heap.size,0,none⟩ x0).setCell ⟨w.heap.size,1,none⟩ x1).setCell ⟨w.heap.size,2,none⟩ x2).setCell ⟨w.heap.size,3,none⟩ x3).cell? ⟨w.heap.size,0,none⟩=some x0)∧((((ww.setCell ⟨w.heap.size,0,none⟩ x0).setCell ⟨w.heap.size,1,none⟩ x1).setCell ⟨w.heap.size,2,none⟩ x2).setCell ⟨w.heap.size,3,none⟩ x3).cell? ⟨w.heap.size,1,none⟩=some x1∧((((ww.setCell ⟨w.heap.size,0,none⟩ x0).setCell ⟨w.heap.size,1,none⟩ x1).setCell ⟨w.heap.size,2,none⟩ x2).setCell ⟨w.heap.size,3,none⟩ x3).cell? ⟨w.heap.size,2,none⟩=some x2∧((((ww.setCell ⟨w.heap.size,0,none⟩ x0).setCell ⟨w.heap.size,1,none⟩ x1).setCell ⟨w.heap.size,2,none⟩ x2).setCell ⟨w.heap.size,3,none⟩ x3).cell? ⟨w.heap.size,3,none⟩=some x3)∧Kept (fun q=>q=w.heap.size) ww ((((ww.setCell ⟨w.heap.size,0,none⟩ x0).setCell ⟨w.heap.size,1,none⟩ x1).setCell ⟨w.heap.size,2,none⟩ x2).setCell ⟨w.heap.size,3,none⟩ x3)∧Same0 w ((((ww.setCell ⟨w.heap.size,0,none⟩ x0).setCell ⟨w.heap.size,1,none⟩ x1).setCell ⟨w.heap.size,2,none⟩ x2).setCell ⟨w.heap.size,3,none⟩ x3):=by
 have rs:ww.heap[w.heap.size]? = some (.cells #[.int .i64 0,.int .i64 0,.slice none 0 0,.slice none 0 0] 35 (0,0)):=hk.at0 (heap_alloc_new w _)
 have s3:=setAt (setAt (setAt (setAt rs 0 x0) 1 x1) 2 x2) 3 x3
 have k1:=Kept.setCell (p:=⟨w.heap.size,0,none⟩) (Kept.refl (fun q=>q=w.heap.size) ww) (fun _=>rfl) x0
 have k2:=Kept.setCell (p:=⟨w.heap.size,1,none⟩) k1 (fun _=>rfl) x1
 have k3:=Kept.setCell (p:=⟨w.heap.size,2,none⟩) k2 (fun _=>rfl) x2
 have k4:=Kept.setCell (p:=⟨w.heap.size,3,none⟩) k3 (fun _=>rfl) x3
 have ka:Same0 w (w.alloc zeroCs):=(Kept.refl _ w).alloc _
 exact ⟨⟨cellAt s3 0,cellAt s3 1,cellAt s3 2,cellAt s3 3⟩,k4,Kept.trans (ka.trans' hk) k4 (fun i hi e=>by have e' : i=w.heap.size:=e;omega)⟩
theorem res_get {w:World} (ww:World) (hk:Same0 (w.alloc zeroCs) ww):(ww.cell? ⟨w.heap.size,0,none⟩=some (.int .i64 0)∧ww.cell? ⟨w.heap.size,1,none⟩=some (.int .i64 0)∧ww.cell? ⟨w.heap.size,2,none⟩=some (.slice none 0 0)∧ww.cell? ⟨w.heap.size,3,none⟩=some (.slice none 0 0))∧ww.frozen? ⟨w.heap.size,0,none⟩=false∧ww.frozen? ⟨w.heap.size,1,none⟩=false∧ww.frozen? ⟨w.heap.size,2,none⟩=false∧ww.frozen? ⟨w.heap.size,3,none⟩=false:=by
 have rs:ww.heap[w.heap.size]? = some (.cells #[.int .i64 0,.int .i64 0,.slice none 0 0,.slice none 0 0] 35 (0,0)):=hk.at0 (heap_alloc_new w _)
 exact ⟨⟨cellAt rs 0,cellAt rs 1,cellAt rs 2,cellAt rs 3⟩,frozenAt rs 0,frozenAt rs 1,frozenAt rs 2,frozenAt rs 3⟩
set_option maxHeartbeats 4000000 in
theorem node_zero {L:List Sym} {R:List Ru} {n:Nat} {w:World} {rv:Value} {mo tn so:Option Addr} {tc:Nat} {t:List Int} (mc sc:Nat) (hrv:∃ ro rc,rv=.slice ro L.length rc) :
  Calls Tryz.prog 42 #[rv,.slice mo R.length mc,.slice tn t.length tc,.slice so 0 sc] w (@NodeOut (n+1) w (.ok (3,0,[],[]))):=by
 obtain ⟨ro,rc,rfl⟩:=hrv
 obtain ⟨⟨r0,r1,r2,r3⟩,f0,f1,f2,f3⟩:=res_get (w.alloc zeroCs) (Kept.refl _ _)
 go_enter Tryz.func42,Tryz.ntmps42
 go_wp2
 exact bodyPost_ret (v:=.tuple #[.agg #[.int .i64 3,.int .i64 0,.slice none 0 0,.slice none 0 0],.int .i64 (-1)]) (by simp [results,Tryz.results42,go_sem]) rfl ⟨_,rfl,leaf_cs _ _ _ _ _,(Kept.refl _ w).alloc _⟩
theorem place_none {w:World} {L:List Sym} {R:List Ru} {n:Nat} {rv:Value} {mo tn so:Option Addr} {tc:Nat} {t:List Int} {rows:List Rw} (h:NdD w L R n rv mo tn so tc t rows) (hne:rows≠[]) (hp:partN rows (vpS L [] t).length=none) (mc sc:Nat) :
  Calls Tryz.prog 86 #[rv,.slice mo R.length mc,.slice tn t.length tc,.slice so rows.length sc] w fun e w' => e=.returned (.int .i64 (-1))∧Same0 w w' := by
 refine (place8_any h (h.dn.small h.nk hne) mc sc).mono ?_
 rintro e w' ⟨z,rfl,hz,hk⟩
 rcases hz.out with ⟨rfl,_⟩ | ⟨p,_,_,_,hq⟩
 ·exact ⟨rfl,hk⟩
 ·rw [hp] at hq;cases hq
theorem head_row {rows:List Rw} (h:0<rows.length):rows.headD (0,[],[])=rows[0]:=by
 cases rows with
 | nil=>simp at h
 | cons x r=>rfl
set_option maxHeartbeats 8000000 in
theorem node_leaf {L:List Sym} {R:List Ru} {n:Nat} {w:World} {rv:Value} {mo tn so:Option Addr} {tc:Nat} {t:List Int} {rows:List Rw} (h:NdD w L R (n+1) rv mo tn so tc t rows) (h1:rows.length=1) (hp:partN rows (vpS L [] t).length=none) (mc sc:Nat) :
  Calls Tryz.prog 42 #[rv,.slice mo R.length mc,.slice tn t.length tc,.slice so rows.length sc] w (@NodeOut (n+1) w (.ok (1,(rows.headD (0,[],[])).1,[],[]))):=by
 have hne:rows≠[]:=fun e=>by rw [e] at h1;simp at h1
 have ka:Same0 w (w.alloc zeroCs):=(Kept.refl _ w).alloc _
 have CP:=place_none (h.same ka) hne hp mc sc
 obtain ⟨ro,rc,rfl⟩:=row_shape h.rl.1
 have hl0:0<rows.length:=by omega
 have hl0' : 0<(rows.map (·.1)).length:=by simpa using hl0
 obtain ⟨sb,soff,rfl,hsb,hsc⟩:=h.si.get hl0'
 have HS:Hid (∀ ww,Same0 (w.alloc zeroCs) ww→ww.cell? ⟨sb,soff,none⟩=some (.int .i64 (rows.headD (0,[],[])).1)):=fun ww hk=>by
  have:=((ka.trans' hk).cell (p:=⟨sb,soff+0,none⟩) hsb (fun f=>f)).trans hsc
  rw [head_row hl0]
  simpa using this
 have i1:(0:Int)<(rows.length:Int):=by omega
 have e0:((rows.length:Int) == 0)=false:=by rw [h1];rfl
 have e1:((rows.length:Int) == 1)=true:=by rw [h1];rfl
 obtain ⟨W1,hW1⟩:∃ W1,W1=w.alloc zeroCs:=⟨_,rfl⟩
 have HW:Hid (W1=w.alloc zeroCs):=hW1
 rw [← hW1] at CP HS
 clear h hp hsc hl0' hl0 hne ka
 generalize rows.length=N at *
 generalize (rows.headD (0,[],[])).1=z at *
 go_enter Tryz.func42,Tryz.ntmps42
 go_upto_region 3 with fail
 rw [← hW1]
 clear hW1 h1
 go_upto_region 5 with (first | (go_at_call 86;refine CP.mono ?_;rintro e w2 ⟨rfl,k2⟩))
 have k2' : Same0 (w.alloc zeroCs) w2:=by rw [← HW.out];exact k2
 obtain ⟨⟨r0,r1,r2,r3⟩,f0,f1,f2,f3⟩:=res_get w2 k2'
 have d0:=HS.out w2 k2
 obtain ⟨⟨g0,g1,g2,g3⟩,kk,ks⟩:=res_put (w:=w) (x0:=.int .i64 1) (x1:=.int .i64 z) (x2:=.slice none 0 0) (x3:=.slice none 0 0) w2 k2'
 have GG:Hid (_∧_∧_∧_):=⟨g0,g1,g2,g3⟩
 have KS:Hid (Same0 _ _):=ks
 clear g0 g1 g2 g3 kk ks CP
 go_wp2
 obtain ⟨g0,g1,g2,g3⟩:=GG.out
 exact bodyPost_ret (v:=.tuple #[.agg #[.int .i64 1,.int .i64 z,.slice none 0 0,.slice none 0 0],.int .i64 (-1)]) (by simp [results,Tryz.results42,go_sem,g0,g1,g2,g3]) rfl ⟨_,rfl,leaf_cs _ _ _ _ _,KS.out⟩
set_option maxHeartbeats 8000000 in
theorem node_fork {L:List Sym} {R:List Ru} {n:Nat} {w:World} {rv:Value} {mo tn so:Option Addr} {tc:Nat} {t:List Int} {rows:List Rw} (h:NdD w L R (n+1) rv mo tn so tc t rows) (h0:¬ rows.length=0) (h1:¬ rows.length=1) (hp:partN rows (vpS L [] t).length=none) (mc sc:Nat) :
  Calls Tryz.prog 42 #[rv,.slice mo R.length mc,.slice tn t.length tc,.slice so rows.length sc] w (@NodeOut (n+1) w (.error (rows.headD (0,[],[])).1)):=by
 have hne:rows≠[]:=fun e=>by rw [e] at h0;simp at h0
 have ka:Same0 w (w.alloc zeroCs):=(Kept.refl _ w).alloc _
 have CP:=place_none (h.same ka) hne hp mc sc
 obtain ⟨ro,rc,rfl⟩:=row_shape h.rl.1
 have hl0:0<rows.length:=by omega
 have hl0' : 0<(rows.map (·.1)).length:=by simpa using hl0
 obtain ⟨sb,soff,rfl,hsb,hsc⟩:=h.si.get hl0'
 have HS:Hid (∀ ww,Same0 (w.alloc zeroCs) ww→ww.cell? ⟨sb,soff,none⟩=some (.int .i64 (rows.headD (0,[],[])).1)):=fun ww hk=>by
  have:=((ka.trans' hk).cell (p:=⟨sb,soff+0,none⟩) hsb (fun f=>f)).trans hsc
  rw [head_row hl0]
  simpa using this
 have HZ:Hid (0≤(rows.headD (0,[],[])).1):=by
  obtain ⟨j,_,ej,_⟩:=h.dn.row _ (List.getElem_mem hl0)
  show 0≤_
  rw [head_row hl0,ej];omega
 have i1:(0:Int)<(rows.length:Int):=by omega
 have e0:((rows.length:Int) == 0)=false:=by simp;omega
 have e1:((rows.length:Int) == 1)=false:=by simp;omega
 obtain ⟨W1,hW1⟩:∃ W1,W1=w.alloc zeroCs:=⟨_,rfl⟩
 have HW:Hid (W1=w.alloc zeroCs):=hW1
 rw [← hW1] at CP HS
 clear h hp hsc hl0' hl0 hne ka h0 h1
 generalize rows.length=N at *
 generalize (rows.headD (0,[],[])).1=z at *
 go_enter Tryz.func42,Tryz.ntmps42
 go_upto_region 3 with fail
 rw [← hW1]
 clear hW1
 go_upto_region 7 with (first | (go_at_call 86;refine CP.mono ?_;rintro e w2 ⟨rfl,k2⟩))
 have kd:Same0 W1 w2.drew:=k2.trans' ((Kept.refl _ _).drew)
 have k2' : Same0 (w.alloc zeroCs) w2.drew:=by rw [← HW.out];exact kd
 obtain ⟨⟨r0,r1,r2,r3⟩,f0,f1,f2,f3⟩:=res_get w2.drew k2'
 have d0:=HS.out w2.drew kd
 have ks:=(res_put (w:=w) (x0:=.int .i64 0) (x1:=.int .i64 0) (x2:=.slice none 0 0) (x3:=.slice none 0 0) w2.drew k2').2.2
 have KS:Hid (Same0 w _):=ks
 clear ks CP
 have i2:0<N:=by omega
 have k3' : Same0 (w.alloc zeroCs) w2:=by rw [← HW.out];exact k2
 obtain ⟨⟨s0,s1,s2,s3⟩,t0,t1,t2,t3⟩:=res_get w2 k3'
 have d1:=HS.out w2 k2
 have rs:w2.heap[w.heap.size]? = some (.cells #[.int .i64 0,.int .i64 0,.slice none 0 0,.slice none 0 0] 35 (0,0)):=k3'.at0 (heap_alloc_new w _)
 have q0:=setAt rs 0 (.int .i64 0)
 have q1:=setAt q0 1 (.int .i64 0)
 have q2:=setAt q1 2 (.slice none 0 0)
 have q3:=setAt q2 3 (.slice none 0 0)
 have GG:Hid (_∧_∧_∧_):=⟨cellAt q0 0,cellAt q1 1,cellAt q2 2,cellAt q3 3⟩
 clear rs q0 q1 q2 q3
 go_region
 go_wp2
 obtain ⟨g0,g1,g2,g3⟩:=GG.out
 exact bodyPost_ret (v:=.tuple #[zeroC,.int .i64 z]) (by simp [results,Tryz.results42,go_sem,g0,g1,g2,g3]) rfl ⟨rfl,HZ.out,KS.out⟩
theorem map_fst_len {rows:List Rw}:(rows.map (·.1)).length=rows.length:=List.length_map _
theorem kidX_fst (L:List Sym) (c:Nat) (rows:List Rw):(rows.map (kidX L c)).map (·.1)=rows.map (·.1):=by
 rw [List.map_map];rfl
theorem havR_none {n:Nat} {L:List Sym} {P:List (List Int)} {R:List Rw} {c k:Nat} (h:¬ 0<(havR R c (k:Int)).length) {l:List (Int × Tr n)} (hK:KidsF L n P R c k=.ok l):KidsF L n P R c (k+1)=.ok l:=by
 unfold KidsF at hK ⊢
 rw [kidsN,hK]
 simp only [h,decide_false,Bool.false_eq_true,if_false]
theorem havR_some {n:Nat} {L:List Sym} {P:List (List Int)} {R:List Rw} {c k:Nat} (h:0<(havR R c (k:Int)).length) {l:List (Int × Tr n)} (hK:KidsF L n P R c k=.ok l):KidsF L n P R c (k+1)=(match growF L n (kidP L P c k) ((havR R c (k:Int)).map (kidX L c)) with | .error e=>.error e | .ok t=>.ok (l ++ [((k:Int),t)])):=by
 unfold KidsF at hK ⊢
 rw [kidsN,hK]
 simp only [h,decide_true,if_true]
 cases growF L n (kidP L P c k) ((havR R c (k:Int)).map (kidX L c)) <;> rfl
theorem kid_more {n:Nat} {w2 wr:World} {kb:Nat} {lo:Option Addr} {lc:Nat} {l:List (Int × Tr n)} {us:List Value} {x2:Value} {k:Nat} {t:Tr n} (hN:wr.heap[kb]? = some (.cells #[.int .i64 2,.int .i64 0,x2,.slice lo l.length lc] 35 (0,0))) (hr:wr.ownsRow (kb+1) 89 5 (.slice lo l.length lc) l.length us) (hus:KCells (fun b=>kb<b∧(Value.slice lo l.length lc).ownBlock≠some b) wr n us l) (hw:Same0 w2 wr) (hz2:w2.heap.size≤kb)
  {w4 w5:World} {c0 c1 c2 c3:Value} {g cap:Nat} {w11:World} (k4:Same0 wr w4) (k5:Same0 w4 w5) (hcs:CsB (fun b=>w4.heap.size≤b) w5 n (.agg #[c0,c1,c2,c3]) t) (r11:w11.ownsRow (kb+1) 89 5 (.slice (some ⟨g,0,none⟩) (l.length+1) cap) (l.length+1) (us ++ [.int .i64 (k:Int),c0,c1,c2,c3])) (k11:Kept (fun q=>(Value.slice lo l.length lc).ownBlock=some q) w5 w11) (hat:(Value.slice lo l.length lc).ownBlock=some g∨w5.heap.size≤g) :
  (w11.cell? ⟨kb,3,none⟩=some (.slice lo l.length lc)∧w11.frozen? ⟨kb,3,none⟩=false)∧((w11.setCell ⟨kb,3,none⟩ (.slice (some ⟨g,0,none⟩) (l.length+1) cap)).heap[kb]? = some (.cells #[.int .i64 2,.int .i64 0,x2,.slice (some ⟨g,0,none⟩) (l.length+1) cap] 35 (0,0)))∧((w11.setCell ⟨kb,3,none⟩ (.slice (some ⟨g,0,none⟩) (l.length+1) cap)).ownsRow (kb+1) 89 5 (.slice (some ⟨g,0,none⟩) (l.length+1) cap) (l ++ [((k:Int),t)]).length (us ++ [.int .i64 (k:Int),c0,c1,c2,c3]))∧(KCells (fun b=>kb<b∧(Value.slice (some ⟨g,0,none⟩) (l.length+1) cap).ownBlock≠some b) (w11.setCell ⟨kb,3,none⟩ (.slice (some ⟨g,0,none⟩) (l.length+1) cap)) n (us ++ [.int .i64 (k:Int),c0,c1,c2,c3]) (l ++ [((k:Int),t)]))∧Same0 w2 (w11.setCell ⟨kb,3,none⟩ (.slice (some ⟨g,0,none⟩) (l.length+1) cap)):=by
 have hkr:kb<wr.heap.size:=lt_of_at hN
 have kr5:Same0 wr w5:=k4.trans' k5
 have hr5:=kr5.row hr (fun _ _ f=>f)
 have n5:=kr5.at0 hN
 have nk:¬ (Value.slice lo l.length lc).ownBlock=some kb:=fun e=>by
  obtain ⟨cu,h5⟩:=own_blk hr5 e
  rw [n5] at h5;cases h5
 have n11:=k11.at n5 nk
 have ks:Kept (fun q=>q=kb) w11 (w11.setCell ⟨kb,3,none⟩ (.slice (some ⟨g,0,none⟩) (l.length+1) cap)):=Kept.setCell (p:=⟨kb,3,none⟩) (Kept.refl (fun q=>q=kb) w11) (fun _=>rfl) _
 have z4:=k4.size
 have z5:=k5.size
 have hK1:KCells (fun b=>kb<b∧(Value.slice lo l.length lc).ownBlock≠some b∧b<w5.heap.size) w5 n us l:=by
  have:=hus.mono (B' := fun b=>kb<b∧(Value.slice lo l.length lc).ownBlock≠some b∧b<w5.heap.size) (fun b hb q=>⟨q.1,q.2,by omega⟩)
  exact this.kept kr5 (fun _ _ f=>f)
 have hC1:CsB (fun b=>kb<b∧(Value.slice lo l.length lc).ownBlock≠some b∧b<w5.heap.size) w5 n (.agg #[c0,c1,c2,c3]) t:=CsB.mono (fun b hb q=>by have q' : w4.heap.size≤b:=q;exact ⟨by omega,fun e=>by have:=(hr.lt b e).2;omega,hb⟩) hcs
 refine ⟨⟨cellAt n11 3,frozenAt n11 3⟩,setAt n11 3 _,?_,?_,?_⟩
 ·rw [List.length_append]
  exact ks.row r11 (fun q e f=>by
   obtain ⟨cu,h5⟩:=own_blk r11 e
   subst f
   rw [n11] at h5;cases h5)
 ·have a1:=(hK1.snoc (s:=(k:Int)) hC1).kept k11 (fun b q e=>q.2.1 e)
  have a2:=a1.kept ks (fun b q e=>by have:=q.1;have e' : b=kb:=e;omega)
  exact a2.mono (fun b hb q=>⟨q.1,fun e=>by
   simp only [Value.ownBlock,Option.some.injEq] at e
   subst e
   rcases hat with e | e
   ·exact q.2.1 e
   ·have:=q.2.2;omega⟩)
 ·refine Kept.trans (Kept.trans (hw.trans' kr5) k11 (fun i hi e=>?_)) ks (fun i hi e=>by have e' : i=kb:=e;omega)
  have:=(hr5.lt i e).1
  omega
set_option maxHeartbeats 16000000 in
theorem node_branch {L:List Sym} {R:List Ru} {n:Nat} (IH:NodeIH L R n) {w:World} {rv:Value} {mo tn so:Option Addr} {tc:Nat} {t:List Int} {rows:List Rw} (h:NdD w L R (n+1) rv mo tn so tc t rows) (h0:¬ rows.length=0) {c:Nat} (hpart:partN rows (vpS L [] t).length=some c) (mc sc:Nat) :
  Calls Tryz.prog 42 #[rv,.slice mo R.length mc,.slice tn t.length tc,.slice so rows.length sc] w (NodeOut w (BrF L n (vpS L [] t) rows c)):=by
 have hne:rows≠[]:=fun e=>by rw [e] at h0;simp at h0
 have hm:t.length≤2000:=h.dn.small h.nk hne
 have hL64:=h.rl.2.2.2
 have hArs:=h.rl.2.2.1
 have hle:=h.nk.le
 have hRle:=h.le
 have hcP:=(partN_some hpart).1
 have ka:Same0 w (w.alloc zeroCs):=(Kept.refl _ w).alloc _
 obtain ⟨ro,rcap,hrv⟩:=row_shape h.rl.1
 have CP:Calls Tryz.prog 86 #[rv,.slice mo R.length mc,.slice tn t.length tc,.slice so rows.length sc] (w.alloc zeroCs) fun e w' => ∃ p:Nat,e=.returned (.int .i64 (p:Int))∧Hid (∃ hp:p<t.length,t[p]<0∧colN L t p=c)∧Same0 (w.alloc zeroCs) w' := by
  refine (place8_any (h.same ka) hm mc sc).mono ?_
  rintro e w' ⟨z,rfl,hz,hk⟩
  rcases hz.out with ⟨_,hq⟩ | ⟨p,rfl,hp,hv,hq⟩
  ·rw [hpart] at hq;cases hq
  ·rw [hpart] at hq
   cases hq
   exact ⟨p,rfl,⟨hp,hv,rfl⟩,hk⟩
 have HH:Hid (∀ ww,Same0 (w.alloc zeroCs) ww→NdD ww L R (n+1) rv mo tn so tc t rows):=fun ww hk=>h.same (ka.trans' hk)
 have PA:Hid (∀ ww (p:Nat) (hp:p<t.length),t[p]<0→colN L t p=c→Same0 (w.alloc zeroCs) ww→Calls Tryz.prog 87 #[rv,.slice tn t.length tc,.int .i64 (p:Int)] ww fun e w' => ∃ po pc,e=.returned (.slice po ((vpS L [] t).getD c []).length pc)∧Hid (Arg w' po ((vpS L [] t).getD c []) pc∧∀ a,po=some a→ww.heap.size≤a.block)∧Same0 ww w'):=fun ww p hp hv hc hk=>by
  have hg:(vpS L [] t).getD c []=firsts (way L t p):=by rw [← hc,List.getD,col_get hp hv];rfl
  have hl:(firsts (way L t p)).length≤2000:=by rw [firsts_length];have:=way_length L t p (by omega);omega
  rw [hg]
  refine (rpath_any (cap:=tc) (HH.out ww hk).rl (HH.out ww hk).ti hm h.dn.isT p hp).mono ?_
  rintro e w' ⟨v,rfl,r,k⟩
  obtain ⟨ao,ac,rfl,a1,a2⟩:=r.arg (by omega)
  exact ⟨ao,ac,rfl,⟨a1.1,a2⟩,k⟩
 have HA:Hid (∀ ww,Same0 (w.alloc zeroCs) ww→∀ (m:Nat) (hm:m<rows.length),∃ sb soff mb moff,so=some ⟨sb,soff,none⟩∧mo=some ⟨mb,moff,none⟩∧∃ j:Nat,j<R.length∧rows[m].1=(j:Int)∧(∀ w6,Same0 ww w6→w6.cell? ⟨sb,soff+m,none⟩=some (.int .i64 (j:Int)))∧∃ ao al ac,ww.cell? ⟨mb,moff+j * 2,none⟩=some (.slice ao al ac)∧∀ po pc,IntsAt ww po ((vpS L [] t).getD c [])→Calls Tryz.prog 88 #[rv,.slice ao al ac,.slice po ((vpS L [] t).getD c []).length pc] ww fun e w' => e=.returned (.int .i64 (numR rows[m] c))∧Same0 ww w'):=fun ww hk2 m hm2=>by
  obtain ⟨sb,soff,mb,moff,e1,e2,j,hj,e3,HF⟩:=(HH.out ww hk2).at' hm2 hcP
  obtain ⟨f1,ao,al,ac,f2,CA⟩:=HF ww (Kept.refl _ _)
  rw [getD_lt hcP]
  exact ⟨sb,soff,mb,moff,e1,e2,j,hj,e3,fun w6 hk6=>(HF w6 hk6).1,ao,al,ac,f2,CA⟩
 have FR:Hid (∀ ww (k:Nat),k<L.length→Same0 (w.alloc zeroCs) ww→Calls Tryz.prog 43 #[rv,.int .i64 (k:Int)] ww fun e w' => ∃ fo fc,e=.returned (.slice fo (freshN L k).length fc)∧Hid (IntsAt w' fo (freshN L k))∧Same0 ww w'):=fun ww k hk hs=>(fresh8_any (HH.out ww hs).rl hk).mono (fun e w' ⟨v,e1,r,k9⟩=>by
  obtain ⟨ao,cap,rfl,ia,_,_⟩:=r.ints
  exact ⟨ao,cap,e1,ia,k9⟩)
 have PU:Hid (∀ ww fo fc (k p:Nat),p<t.length→Same0 (w.alloc zeroCs) ww→IntsAt ww fo (freshN L k)→Calls Tryz.prog 89 #[rv,.slice tn t.length tc,.int .i64 (p:Int),.slice fo (freshN L k).length fc] ww fun e w' => ∃ qo qc,e=.returned (.slice qo (putN L t p (freshN L k)).length qc)∧Hid (IntsAt w' qo (putN L t p (freshN L k))∧(putN L t p (freshN L k)).length≤qc)∧Same0 ww w'):=fun ww fo fc k p hp hs hf=>by
  have h6:=arN_le hArs (k:Int)
  have hfl:=fresh_len L k
  refine (rput_any (cap:=tc) (ucap:=fc) (HH.out ww hs).rl (HH.out ww hs).ti hm h.cap h.dn.isT p hp hf (by omega) (by omega)).mono ?_
  rintro e w' ⟨v,rfl,r,k9⟩
  obtain ⟨ao,cap,rfl,ia,ic,_⟩:=r.ints
  exact ⟨ao,cap,rfl,⟨ia,ic⟩,k9⟩
 have NO:Hid (∀ ww qo qc wo wc (k p:Nat) (hp:p<t.length),t[p]<0→colN L t p=c→k<L.length→0<(havR rows c (k:Int)).length→Same0 (w.alloc zeroCs) ww→IntsAt ww qo (putN L t p (freshN L k))→(putN L t p (freshN L k)).length≤qc→IntsAt ww wo ((havR rows c (k:Int)).map (·.1))→Calls Tryz.prog 42 #[rv,.slice mo R.length mc,.slice qo (putN L t p (freshN L k)).length qc,.slice wo (havR rows c (k:Int)).length wc] ww (NodeOut ww (growF L n (kidP L (vpS L [] t) c k) ((havR rows c (k:Int)).map (kidX L c))))):=fun ww qo qc wo wc k p hp hv hc hk hh hs hq hqc hw=>by
  have hd:=h.dn.kid h.nk hp hv k
  have hn:=h.nk.kid (s:=k) hcP hk (arN_le hArs _) (fun e=>by rw [e] at hh;simp at hh)
  rw [hc] at hd
  have e1:=vp_kid (L:=L) hp hv k
  rw [hc] at e1
  rw [← e1] at hn ⊢
  have:=IH ww rv mo qo wo qc (putN L t p (freshN L k)) ((havR rows c (k:Int)).map (kidX L c)) ⟨(HH.out ww hs).rl,(HH.out ww hs).rs,h.le,hq,hqc,by rw [kidX_fst];exact hw,hd,hn⟩ mc wc
  rw [List.length_map] at this
  exact this
 obtain ⟨P,hPe⟩:∃ P,P=vpS L [] t:=⟨_,rfl⟩
 rw [← hPe] at PA HA NO ⊢
 have b0:((rows.length:Int) == 0)=false:=by simp;omega
 obtain ⟨W1,hW1⟩:∃ W1,W1=w.alloc zeroCs:=⟨_,rfl⟩
 have HW:Hid (W1=w.alloc zeroCs):=hW1
 have KW:Same0 w W1:=by rw [hW1];exact ka
 have ezW:W1.heap.size=w.heap.size+1:=by rw [hW1];simp
 have EZW:Hid (W1.heap.size=w.heap.size+1):=ezW
 rw [← hW1] at CP HH PA HA FR PU NO
 subst hrv
 clear h h0 hpart hne ka hPe IH hcP hm hArs ezW
 obtain ⟨Q,hQ⟩:∃ Q,Q=P.getD c []:=⟨_,rfl⟩
 have HQE:Hid (Q=P.getD c []):=hQ
 rw [← hQ] at PA HA
 clear hQ HH
 go_enter Tryz.func42,Tryz.ntmps42
 go_upto_region 3 with fail
 rw [← hW1]
 clear hW1
 go_upto_region 8 with (first | (go_at_call 86;refine CP.mono ?_;rintro e w1 ⟨p,rfl,hpp,k1⟩))
 obtain ⟨hp,hv,hcol⟩:=hpp.out
 have PA1:=PA.out w1 p hp hv hcol k1
 have HP3:Hid (∃ hp:p<t.length,t[p]<0∧colN L t p=c):=hpp
 clear CP hpp PA hp hv hcol
 go_upto_region 9 with (first | (go_at_call 87;refine PA1.mono ?_;rintro e w2 ⟨qo,qc,rfl,hq2,k2⟩))
 have K2:Same0 W1 w2:=k1.trans' k2
 have hz12:=k1.size
 have HQ:Hid (∀ ww,Same0 w2 ww→Arg ww qo Q qc):=fun ww hk=>hq2.out.1.same hk
 have HQB:Hid (∀ a,qo=some a→W1.heap.size≤a.block):=fun a e=>Nat.le_trans hz12 (hq2.out.2 a e)
 obtain ⟨kb,hkb⟩:∃ kb,kb=w2.heap.size:=⟨_,rfl⟩
 have HKB:Hid (kb=w2.heap.size):=hkb
 have hN0:Hid ((w2.alloc (.cells #[.int .i64 2,.int .i64 0,.slice qo Q.length qc,.slice none 0 0] 35)).heap[kb]? = some (.cells #[.int .i64 2,.int .i64 0,.slice qo Q.length qc,.slice none 0 0] 35 (0,0))):=by rw [hkb];exact heap_alloc_new w2 _
 have K3:Same0 w2 (w2.alloc (.cells #[.int .i64 2,.int .i64 0,.slice qo Q.length qc,.slice none 0 0] 35)):=(Kept.refl _ _).alloc _
 have hkW:W1.heap.size≤kb:=by rw [hkb];exact K2.size
 clear PA1 hq2 k1 k2 hz12
 go_upto_region 11 with fail
 rw [← hkb]
 clear hkb
 go_loopw [13] (fun i wr=>∃ (k:Nat) (lv:Value) (us:List Value) (l:List (Int × Tr n)),k≤L.length∧i=.int .i64 (k:Int)∧Hid (KidsF L n P rows c k=.ok l)∧Hid (wr.heap[kb]? = some (.cells #[.int .i64 2,.int .i64 0,.slice qo Q.length qc,lv] 35 (0,0)))∧Hid (wr.ownsRow (kb+1) 89 5 lv l.length us)∧Hid (KCells (fun b=>kb<b∧lv.ownBlock≠some b) wr n us l)∧Same0 w2 wr) (fun i _=>L.length-(intOf i).toNat)
 case atStart=>exact ⟨0,.slice none 0 0,[],[],Nat.zero_le _,rfl,rfl,hN0,World.ownsRow_nil _ _ _ _,KCells.nil _ _ _,K3⟩
 case round=>
  clear hN0 K3
  obtain ⟨k,lv,us,l,hk,rfl,hK,hN,hr,hus,hw⟩:=hrel
  obtain ⟨lo,lc,rfl⟩:=row_shape hr.out
  have hw1:Same0 W1 wr:=K2.trans' hw
  have hll:=KidsF_len hK.out
  by_cases hlt:k<L.length
  ·have i1:(0:Int)≤(k:Int):=by omega
   have i2:(k:Int)<(L.length:Int):=by omega
   have R0:Hid (Row wr.heap.size wr (.slice none 0 0) ((havR (rows.take 0) c (k:Int)).map (·.1))):=World.ownsRow_nil _ _ _ _
   have EZ2:Hid (w2.heap.size≤kb):=by show _≤_;rw [HKB.out];exact Nat.le_refl _
   have HN' : Hid (∀ w4,Same0 wr w4→w4.cell? ⟨kb,3,none⟩=some (.slice lo l.length lc)):=fun w4 hk4=>cellAt (hk4.at0 hN.out) 3
   go_upto_region 15 with fail
   obtain ⟨wo,rfl⟩:∃ wo:World,wo=wr:=⟨_,rfl⟩
   go_loopw [14,15] (fun wv kv wr=>∃ m:Nat,m≤rows.length∧kv=.int .i64 (m:Int)∧Hid (Row wo.heap.size wr wv ((havR (rows.take m) c (k:Int)).map (·.1)))∧Same0 wo wr) (fun _ kv _=>rows.length-(intOf kv).toNat)
   case atStart=>exact ⟨0,Nat.zero_le _,rfl,R0,Kept.refl _ _⟩
   case round=>
    obtain ⟨m,hml,rfl,hrow,hwi⟩:=hrel
    obtain ⟨vo,vc,rfl⟩:=row_shape hrow.out
    have hwo1:Same0 W1 wo:=hw1
    by_cases hmlt:m<rows.length
    ·obtain ⟨sb,soff,mb,moff,rfl,rfl,j,hj,ej,f1,ao,al,ac,f2,CA⟩:=HA.out wr (hwo1.trans' hwi) m hmlt
     have HPQ:IntsAt wr qo Q:=(HQ.out wr (hw.trans' hwi)).at'
     have C2:=CA qo qc HPQ
     have f0:=f1 wr (Kept.refl _ _)
     have F1:Hid (∀ w6,Same0 wr w6→w6.cell? ⟨sb,soff+m,none⟩=some (.int .i64 (j:Int))):=f1
     have HT:=havR_take (c:=c) (s:=(k:Int)) hmlt
     have hl2:=havR_len (rows.take m) c (k:Int)
     have hl3:(rows.take m).length=m:=by simp;omega
     have hl4:((havR (rows.take m) c (k:Int)).map (·.1)).length=(havR (rows.take m) c (k:Int)).length:=List.length_map _
     have hl5:((havR (rows.take m) c (k:Int)).map (·.1)).length≤100:=by omega
     have hb8:(((havR (rows.take m) c (k:Int)).map (·.1)).length+1) * 8≤140737488355328:=by omega
     have j1:(0:Int)≤(m:Int):=by omega
     have j2:(m:Int)<(rows.length:Int):=by omega
     have j3:(0:Int)≤(j:Int):=by omega
     have j4:(j:Int)<(R.length:Int):=by omega
     have zA:=hwi.size
     by_cases hq:numR rows[m] c=(k:Int)
     ·rw [if_pos hq] at HT
      have HT2:Hid ((havR (rows.take (m+1)) c (k:Int)).map (·.1)=(havR (rows.take m) c (k:Int)).map (·.1) ++ [(j:Int)]):=by
       show _=_
       rw [HT,List.map_append,List.map_cons,List.map_nil,ej]
      have hqe:(numR rows[m] c == (k:Int))=true:=by simpa using hq
      have HRW:Hid (∀ w6,Same0 wr w6→Row wo.heap.size w6 (.slice vo ((havR (rows.take m) c (k:Int)).map (·.1)).length vc) ((havR (rows.take m) c (k:Int)).map (·.1))∧wo.heap.size≤w6.heap.size):=fun w6 hk6=>⟨hk6.row hrow.out (fun _ _ f=>f),by have:=hk6.size;omega⟩
      clear HT hl2 hl3 hl4 hq hrow f1 CA HPQ R0 hN hr hus hK HA
      generalize numR rows[m] c=z at *
      generalize (havR (rows.take m) c (k:Int)).map (·.1)=xs at *
      go_wp2_with (first | (go_at_call 88;refine C2.mono ?_;rintro e w5 ⟨rfl,k5⟩;have f5:=F1.out w5 k5;obtain ⟨hr5,z5⟩:=HRW.out w5 k5) | (at_builtin;refine wpList_push rfl _ _ 32 rfl Tryz.underlying32 wo.heap.size xs _ rfl hr5 (j:Int) rfl z5 hb8 ?_;intro g cap w7 hr7 hk7 hat7))
      go_roundw
      case rel=>exact ⟨m+1,by omega,by go_num,by rw [HT2.out];exact hr7,Kept.trans (hwi.trans' k5) hk7 (fun i hi e=>by have:=(hr5.lt i e).1;omega)⟩
      case measure=>simp [intOf];omega
     ·rw [if_neg hq,List.append_nil] at HT
      have HT2:Hid ((havR (rows.take (m+1)) c (k:Int)).map (·.1)=(havR (rows.take m) c (k:Int)).map (·.1)):=by show _=_;rw [HT]
      have hqe:(numR rows[m] c == (k:Int))=false:=by simpa using hq
      have HRW:Hid (∀ w6,Same0 wr w6→Row wo.heap.size w6 (.slice vo ((havR (rows.take m) c (k:Int)).map (·.1)).length vc) ((havR (rows.take m) c (k:Int)).map (·.1))):=fun w6 hk6=>hk6.row hrow.out (fun _ _ f=>f)
      clear HT hl2 hl3 hl4 hq hrow f1 CA HPQ R0 hN hr hus hK HA
      generalize numR rows[m] c=z at *
      generalize (havR (rows.take m) c (k:Int)).map (·.1)=xs at *
      go_wp2_with (first | (go_at_call 88;refine C2.mono ?_;rintro e w5 ⟨rfl,k5⟩))
      go_roundw
      case rel=>exact ⟨m+1,by omega,by go_num,by rw [HT2.out];exact HRW.out w5 k5,hwi.trans' k5⟩
      case measure=>simp [intOf];omega
    ·obtain rfl:m=rows.length:=by omega
     have HL:=map_fst_len (rows:=havR rows c (k:Int))
     rw [List.take_length,HL] at hrow ⊢
     clear HA R0
     have hwr:Same0 wo wr:=hwi
     have hw2:Same0 w2 wr:=hw.trans' hwr
     by_cases hhas:0<(havR rows c (k:Int)).length
     ·have hb:(((havR rows c (k:Int)).length:Int) == 0)=false:=by rw [beq_eq_false_iff_ne];omega
      obtain ⟨hp,hv,hcol⟩:=HP3.out
      have FR1:=FR.out wr k hlt (hw1.trans' hwr)
      have HSK:=havR_some hhas hK.out
      have NO1:Hid (∀ ww qo qc,Same0 wr ww→IntsAt ww qo (putN L t p (freshN L k))→(putN L t p (freshN L k)).length≤qc→Calls Tryz.prog 42 #[.slice ro L.length rcap,.slice mo R.length mc,.slice qo (putN L t p (freshN L k)).length qc,.slice vo (havR rows c (k:Int)).length vc] ww (NodeOut ww (growF L n (kidP L P c k) ((havR rows c (k:Int)).map (kidX L c))))):=fun ww qo qc hs hq hqc=>NO.out ww qo qc vo vc k p hp hv hcol hlt hhas ((hw1.trans' hwr).trans' hs) hq hqc (by
       have hrw:Row wo.heap.size ww (.slice vo (havR rows c (k:Int)).length vc) ((havR rows c (k:Int)).map (·.1)):=hs.row hrow.out (fun _ _ f=>f)
       obtain ⟨ao,cap,e1,ia,_,_⟩:=hrw.ints
       rw [HL] at e1
       simp only [Value.slice.injEq] at e1
       obtain ⟨rfl,_,rfl⟩:=e1
       exact ia)
      have PU1:Hid (∀ ww fo fc,Same0 wr ww→IntsAt ww fo (freshN L k)→Calls Tryz.prog 89 #[.slice ro L.length rcap,.slice tn t.length tc,.int .i64 (p:Int),.slice fo (freshN L k).length fc] ww fun e w' => ∃ qo qc,e=.returned (.slice qo (putN L t p (freshN L k)).length qc)∧Hid (IntsAt w' qo (putN L t p (freshN L k))∧(putN L t p (freshN L k)).length≤qc)∧Same0 ww w'):=fun ww fo fc hs hf=>PU.out ww fo fc k p hp ((hw1.trans' hwr).trans' hs) hf
      clear NO PU FR hp hv hcol HP3 hrow HL
      generalize freshN L k=fn at *
      generalize putN L t p fn=pn at *
      have HWR:Hid (∀ ww,Same0 wr ww→Same0 (w.alloc zeroCs) ww):=fun ww hk=>by rw [← HW.out];exact (hw1.trans' hwr).trans' hk
      cases hg:growF L n (kidP L P c k) ((havR rows c (k:Int)).map (kidX L c)) with
      | error z=>
       rw [hg] at HSK NO1
       have HE:Hid (BrF L n P rows c=.error z):=by
        show _=_
        unfold BrF;rw [KidsF_err HSK (show k+1≤L.length by omega)]
       have NE:Hid (∀ ww qo qc,Same0 wr ww→IntsAt ww qo pn→pn.length≤qc→Calls Tryz.prog 42 #[.slice ro L.length rcap,.slice mo R.length mc,.slice qo pn.length qc,.slice vo (havR rows c (k:Int)).length vc] ww fun e w' => e=.returned (.tuple #[zeroC,.int .i64 z])∧Hid (0≤z)∧Same0 ww w'):=fun ww qo qc h1 h2 h3=>NO1.out ww qo qc h1 h2 h3
       clear NO1 HSK hg hN hr hus hK hhas HN' hw2 hll
       generalize (havR rows c (k:Int)).length=N at *
       go_upto_region 21 with (first
        | (go_at_call 43;refine FR1.mono ?_;rintro e w5 ⟨fo,fc,rfl,hf5,k5⟩;have PU2:=PU1.out w5 fo fc k5 hf5.out)
        | (go_at_call 89;refine PU2.mono ?_;rintro e w6 ⟨po2,pc2,rfl,hq6,k6⟩;have NO2:=NE.out w6 po2 pc2 (k5.trans' k6) hq6.out.1 hq6.out.2)
        | (go_at_call 42;refine NO2.mono ?_;rintro e w7 ⟨rfl,hz7,k7⟩))
       have hz8:=hz7.out
       obtain ⟨w8,hw8⟩:∃ w8,w8=w7.alloc zeroCs:=⟨_,rfl⟩
       have k8:Same0 (w.alloc zeroCs) w8:=by rw [hw8];exact Kept.alloc (HWR.out w7 ((k5.trans' k6).trans' k7)) _
       rw [← hw8]
       obtain ⟨⟨r0,r1,r2,r3⟩,f0,f1,f2,f3⟩:=res_get w8 k8
       obtain ⟨⟨g0,g1,g2,g3⟩,kk,ks⟩:=res_put (w:=w) (x0:=.int .i64 0) (x1:=.int .i64 0) (x2:=.slice none 0 0) (x3:=.slice none 0 0) w8 k8
       have GG:Hid (_∧_∧_∧_):=⟨g0,g1,g2,g3⟩
       have KS:Hid (Same0 w _):=ks
       clear hw8 k8 g0 g1 g2 g3 kk ks FR1 PU2 NO2
       go_wp2
       obtain ⟨g0,g1,g2,g3⟩:=GG.out
       exact bodyPost_ret (v:=.tuple #[zeroC,.int .i64 z]) (by simp [results,Tryz.results42,go_sem,g0,g1,g2,g3]) rfl (by rw [HE.out];exact ⟨rfl,hz8,KS.out⟩)
      | ok tt=>
       rw [hg] at HSK NO1
       have HS' : Hid (KidsF L n P rows c (k+1)=.ok (l ++ [((k:Int),tt)])):=HSK
       have NE:Hid (∀ ww qo qc,Same0 wr ww→IntsAt ww qo pn→pn.length≤qc→Calls Tryz.prog 42 #[.slice ro L.length rcap,.slice mo R.length mc,.slice qo pn.length qc,.slice vo (havR rows c (k:Int)).length vc] ww fun e w' => ∃ tk tr tpo tpl tpc tko tkl tkc,e=.returned (.tuple #[.agg #[.int .i64 tk,.int .i64 tr,.slice tpo tpl tpc,.slice tko tkl tkc],.int .i64 (-1)])∧Hid (CsB (fun b=>ww.heap.size≤b) w' n (.agg #[.int .i64 tk,.int .i64 tr,.slice tpo tpl tpc,.slice tko tkl tkc]) tt)∧Same0 ww w'):=fun ww qo qc h1 h2 h3=>by
        refine (NO1.out ww qo qc h1 h2 h3).mono ?_
        rintro e w' ⟨v,rfl,g1,g2⟩
        obtain ⟨tk,tr,tpo,tpl,tpc,tko,tkl,tkc,rfl⟩:=g1.shape
        exact ⟨tk,tr,tpo,tpl,tpc,tko,tkl,tkc,rfl,g1,g2⟩
       have FIN:Hid (∀ w4 w5 c0 c1 c2 c3 g cap w11,Same0 wr w4→Same0 w4 w5→CsB (fun b=>w4.heap.size≤b) w5 n (.agg #[c0,c1,c2,c3]) tt→w11.ownsRow (kb+1) 89 5 (.slice (some ⟨g,0,none⟩) (l.length+1) cap) (l.length+1) (us ++ [.int .i64 (k:Int),c0,c1,c2,c3])→Kept (fun q=>(Value.slice lo l.length lc).ownBlock=some q) w5 w11→((Value.slice lo l.length lc).ownBlock=some g∨w5.heap.size≤g)→(w11.cell? ⟨kb,3,none⟩=some (.slice lo l.length lc)∧w11.frozen? ⟨kb,3,none⟩=false)∧Hid (∃ us' l', Hid (KidsF L n P rows c (k+1)=.ok l')∧Hid ((w11.setCell ⟨kb,3,none⟩ (.slice (some ⟨g,0,none⟩) (l.length+1) cap)).heap[kb]? = some (.cells #[.int .i64 2,.int .i64 0,.slice qo Q.length qc,.slice (some ⟨g,0,none⟩) (l.length+1) cap] 35 (0,0)))∧Hid ((w11.setCell ⟨kb,3,none⟩ (.slice (some ⟨g,0,none⟩) (l.length+1) cap)).ownsRow (kb+1) 89 5 (.slice (some ⟨g,0,none⟩) (l.length+1) cap) l'.length us')∧Hid (KCells (fun b=>kb<b∧(Value.slice (some ⟨g,0,none⟩) (l.length+1) cap).ownBlock≠some b) (w11.setCell ⟨kb,3,none⟩ (.slice (some ⟨g,0,none⟩) (l.length+1) cap)) n us' l')∧Same0 w2 (w11.setCell ⟨kb,3,none⟩ (.slice (some ⟨g,0,none⟩) (l.length+1) cap)))):=by
        intro w4 w5 c0 c1 c2 c3 g cap w11 k4 k5 hcs r11 k11 hat
        obtain ⟨q1,q2,q3,q4,q5⟩:=kid_more hN.out hr.out hus.out hw EZ2.out (hwr.trans' k4) k5 hcs r11 k11 hat
        exact ⟨q1,_,_,HS'.out,q2,q3,q4,q5⟩
       have HRW:Hid (∀ ww,Same0 wr ww→ww.ownsRow (kb+1) 89 5 (.slice lo l.length lc) l.length us∧kb+1≤ww.heap.size∧ww.cell? ⟨kb,3,none⟩=some (.slice lo l.length lc)):=fun ww hk=>by
        have h9:=hwr.trans' hk
        have:=h9.size
        have h10:=lt_of_at hN.out
        exact ⟨h9.row hr.out (fun _ _ f=>f),by omega,HN'.out ww h9⟩
       have hl1000:l.length≤1000:=by omega
       clear NO1 HSK hg hN hr hus hK hhas HN' hll HS'
       generalize (havR rows c (k:Int)).length=N at *
       go_upto_region 21 with (first
        | (go_at_call 43;refine FR1.mono ?_;rintro e w5 ⟨fo,fc,rfl,hf5,k5⟩;have PU2:=PU1.out w5 fo fc k5 hf5.out)
        | (go_at_call 89;refine PU2.mono ?_;rintro e w6 ⟨po2,pc2,rfl,hq6,k6⟩;have NO2:=NE.out w6 po2 pc2 (k5.trans' k6) hq6.out.1 hq6.out.2)
        | (go_at_call 42;refine NO2.mono ?_;rintro e w7 ⟨tk,tr,tpo,tpl,tpc,tko,tkl,tkc,rfl,hcs,k7⟩))
       obtain ⟨w8,hw8⟩:∃ w8,w8=w7.alloc (.cells #[.int .i64 tk,.int .i64 tr,.slice tpo tpl tpc,.slice tko tkl tkc] 35):=⟨_,rfl⟩
       have k78:Same0 w7 w8:=by rw [hw8];exact (Kept.refl _ _).alloc _
       have k8:Same0 wr w8:=((k5.trans' k6).trans' k7).trans' k78
       have b8:w8.heap[w7.heap.size]? = some (.cells #[.int .i64 tk,.int .i64 tr,.slice tpo tpl tpc,.slice tko tkl tkc] 35 (0,0)):=by rw [hw8];exact heap_alloc_new _ _
       rw [← hw8]
       have c0:=cellAt b8 0
       have c1:=cellAt b8 1
       have c2:=cellAt b8 2
       have c3:=cellAt b8 3
       simp only [List.getElem?_toArray,List.getElem?_cons_zero,List.getElem?_cons_succ] at c0 c1 c2 c3
       obtain ⟨hr8,hz8,hn8⟩:=HRW.out w8 k8
       have HR8:Hid (w8.ownsRow (kb+1) 89 5 (.slice lo l.length lc) l.length us):=hr8
       have HC8:Hid (CsB (fun b=>w6.heap.size≤b) w8 n (.agg #[.int .i64 tk,.int .i64 tr,.slice tpo tpl tpc,.slice tko tkl tkc]) tt):=hcs.out.same k78
       have K46:Hid (Same0 wr w6):=k5.trans' k6
       have K68:Hid (Same0 w6 w8):=k7.trans' k78
       clear hw8 b8 hr8 hcs FR1 PU2 NO2 k78
       go_wp2_with (first | (at_builtin;refine wpList_kid (w0:=w8) rfl _ _ rfl (kb+1) l.length us (.slice lo l.length lc) rfl ((Kept.refl _ w8).alloc _) HR8.out (.int .i64 (k:Int)) (.int .i64 tk) (.int .i64 tr) (.slice tpo tpl tpc) (.slice tko tkl tkc) w8.heap.size rfl (heap_alloc_new w8 _) rfl rfl rfl rfl rfl hz8 hl1000 ?_;intro g cap w11 r11 k11 hat;obtain ⟨⟨y1,y2⟩,FF⟩:=FIN.out w6 w8 _ _ _ _ g cap w11 K46.out K68.out HC8.out r11 k11 hat))
       go_roundw
       case rel=>
        obtain ⟨us', l', z1,z2,z3,z4,z5⟩:=FF.out
        exact ⟨k+1,_,us', l', by omega,by go_num,z1,z2,z3,z4,z5⟩
       case measure=>simp [intOf];omega
     ·have h0:(havR rows c (k:Int)).length=0:=by omega
      have HK2:Hid (KidsF L n P rows c (k+1)=.ok l):=havR_none hhas hK.out
      have hN2:Hid (wr.heap[kb]? = some (.cells #[.int .i64 2,.int .i64 0,.slice qo Q.length qc,.slice lo l.length lc] 35 (0,0))):=hwr.at0 hN.out
      have hr2:Hid (wr.ownsRow (kb+1) 89 5 (.slice lo l.length lc) l.length us):=hwr.row hr.out (fun _ _ f=>f)
      have hu2:Hid (KCells (fun b=>kb<b∧(Value.slice lo l.length lc).ownBlock≠some b) wr n us l):=hus.out.kept hwr (fun _ _ f=>f)
      rw [h0]
      clear hN hr hus hK hhas hrow HL h0
      go_wp2_with fail
      go_roundw
      case rel=>exact ⟨k+1,_,us,l,by omega,by go_num,HK2,hN2,hr2,hu2,hw2⟩
      case measure=>simp [intOf];omega
  ·obtain rfl:k=L.length:=by omega
   have hwW:Same0 (w.alloc zeroCs) wr:=by rw [← HW.out];exact hw1
   obtain ⟨⟨r0,r1,r2,r3⟩,f0,f1,f2,f3⟩:=res_get wr hwW
   obtain ⟨⟨g0,g1,g2,g3⟩,kk,ks⟩:=res_put (w:=w) (x0:=.int .i64 2) (x1:=.int .i64 0) (x2:=.slice qo Q.length qc) (x3:=.slice lo l.length lc) wr hwW
   have GG:Hid (_∧_∧_∧_):=⟨g0,g1,g2,g3⟩
   have n0:=cellAt hN.out 0
   have n1:=cellAt hN.out 1
   have n2:=cellAt hN.out 2
   have n3:=cellAt hN.out 3
   simp only [List.getElem?_toArray,List.getElem?_cons_zero,List.getElem?_cons_succ] at n0 n1 n2 n3
   have FIN:Hid (NodeOut w (BrF L n P rows c) (.returned (.tuple #[.agg #[.int .i64 2,.int .i64 0,.slice qo Q.length qc,.slice lo l.length lc],.int .i64 (-1)])) ((((wr.setCell ⟨w.heap.size,0,none⟩ (.int .i64 2)).setCell ⟨w.heap.size,1,none⟩ (.int .i64 0)).setCell ⟨w.heap.size,2,none⟩ (.slice qo Q.length qc)).setCell ⟨w.heap.size,3,none⟩ (.slice lo l.length lc))):=by
    have hB:BrF L n P rows c=.ok (2,0,Q,l):=by
     have:=hK.out
     unfold BrF;rw [this,HQE.out]
    rw [hB]
    have hz1:=EZW.out
    have hcs:=branch_cs (B:=fun b=>W1.heap.size≤b) hr.out (hus.out.mono (fun b hb q=>by have:=q.1;omega)) (fun b e=>by have:=(hr.out.lt b e).1;omega) (HQ.out wr hw) HQB.out 2 0
    exact ⟨_,rfl,CsB.mono (fun b hb q=>by have q' : W1.heap.size≤b:=q;show w.heap.size≤b;omega) (CsB.kept kk (fun b q e=>by have q' : W1.heap.size≤b:=q;have e' : b=w.heap.size:=e;omega) hcs),ks⟩
   clear hN hr hus hK g0 g1 g2 g3 kk ks HA NO PU FR
   go_wp2
   obtain ⟨g0,g1,g2,g3⟩:=GG.out
   exact bodyPost_ret (v:=.tuple #[.agg #[.int .i64 2,.int .i64 0,.slice qo Q.length qc,.slice lo l.length lc],.int .i64 (-1)]) (by simp [results,Tryz.results42,go_sem,g0,g1,g2,g3]) rfl FIN.out
theorem node_any (L:List Sym) (R:List Ru):∀ n,NodeIH L R n
 | 0=>fun w rv mo tn so tc t rows h=>absurd h.nk.pos (Nat.lt_irrefl 0)
 | n+1=>fun w rv mo tn so tc t rows h mc sc=>by
  by_cases h0:rows.length=0
  ·rw [growF_zero h0,h0]
   exact node_zero mc sc (row_shape h.rl.1)
  ·cases hp:partN rows (vpS L [] t).length with
   | some c=>
    rw [growF_branch h0 hp]
    exact node_branch (node_any L R n) h h0 hp mc sc
   | none=>
    by_cases h1:rows.length=1
    ·rw [growF_leaf h1 hp]
     exact node_leaf h h1 hp mc sc
    ·rw [growF_fork h0 h1 hp]
     exact node_fork h h0 h1 hp mc sc
def FarW (w:World) (v:Value):Prop:=∀ a l c,v=.slice (some a) l c→w.heap.size≤a.block
def RBldPost (L:List Sym) (R:List Ru) (n:Int) (w:World) (e:Ending) (w' : World):Prop:=
 Same0 w w' ∧ if defB L n=true then
  (match treeF L R n.toNat with
  | .ok t=>∃ v,e=.returned (.tuple #[v,.slice none 0 0])∧CsB (fun b=>w.heap.size≤b) w' 2001 v t
  | .error z=>∃ v,e=.returned (.tuple #[zeroC,v])∧WrsAt w' v [(81,n),(82,z)]∧FarW w v)
 else ∃ v,e=.returned (.tuple #[zeroC,v])∧WrsAt w' v [(80,0)]∧FarW w v
theorem def_lt8 {L:List Sym} {f:Int} (h:defB L f=true):∃ s:Nat,f=(s:Int)∧s<L.length:=by
 unfold defB at h
 by_cases h0:f<0
 ·simp [h0] at h
 ·rw [if_neg h0] at h
  cases hs:L[f.toNat]? with
  | none=>rw [hs] at h;cases h
  | some x=>exact ⟨f.toNat,by omega,(List.getElem?_eq_some_iff.1 hs).1⟩
theorem root_fst (L:List Sym) (R:List Ru) (s:Nat):(rootR L R s).map (·.1)=ofF (s:Int) 0 R:=by
 unfold rootR
 rw [kidX_fst]
 unfold rowsOf
 rw [List.map_map]
 simp [Function.comp_def]
theorem wrs_one (w:World) (a b:Int) (T:TypeId):WrsAt (w.alloc (.cells #[.int .i64 a,.int .i64 b] T)) (.slice (some ⟨w.heap.size,0,none⟩) 1 1) [(a,b)]:=
 wrs_new w [(a,b)] _ T rfl (fun i hi=>by
  have hi' : i<1:=hi
  match i,hi' with
  | 0,_=>exact ⟨rfl,rfl⟩) 1 rfl
theorem WrsAt.kept8 {S:Nat→Prop} {w w' : World} {lv:Value} {ws:List (Int × Int)} (h:WrsAt w lv ws) (hk:Kept S w w') (hs:∀ b,(∃ l c,lv=.slice (some ⟨b,0,none⟩) l c)→¬ S b):WrsAt w' lv ws:=by
 obtain ⟨lo,lc,e,h⟩:=h
 refine ⟨lo,lc,e,h.imp id ?_⟩
 rintro ⟨b,e2,hb,hc⟩
 subst e2
 have nb:=hs b ⟨_,_,e⟩
 exact ⟨b,rfl,Nat.lt_of_lt_of_le hb hk.size,fun i hi=>⟨(hk.cell (p:=⟨b,i * 2,none⟩) hb nb).trans (hc i hi).1,(hk.cell (p:=⟨b,i * 2+1,none⟩) hb nb).trans (hc i hi).2⟩⟩
set_option maxHeartbeats 8000000 in
theorem rbuild8_any {w:World} {rv:Value} {L:List Sym} {R:List Ru} {mo:Option Addr} (h:Rl w.heap.size w rv L) (hR:RsAt w mo R) (hle:R.length≤100) (hok:∀ x∈R,checkE L x.1=0∧checkE L x.2=0) (mc:Nat) (f:Int) :
  Calls Tryz.prog 9 #[rv,.slice mo R.length mc,.int .i64 f] w (RBldPost L R f w):=by
 have ka:Same0 w (w.alloc zeroCs):=(Kept.refl _ w).alloc _
 obtain ⟨ro,rcap,hrv⟩:=row_shape h.1
 have CD:=rdef_any (h.same ka) f
 obtain ⟨W1,hW1⟩:∃ W1,W1=w.alloc zeroCs:=⟨_,rfl⟩
 have HW:Hid (W1=w.alloc zeroCs):=hW1
 have HEZ:Hid (W1.heap.size=w.heap.size+1):=by rw [hW1];simp [Hid]
 cases hd:defB L f with
 | false=>
  rw [hd] at CD
  rw [← hW1] at CD
  have HP:Hid (∀ v w', Same0 w w' → WrsAt w' v [(80,0)]→FarW w v→RBldPost L R f w (.returned (.tuple #[zeroC,v])) w'):=fun v w' h1 h2 h3=>⟨h1,by rw [if_neg (by rw [hd];simp)];exact ⟨v,rfl,h2,h3⟩⟩
  subst hrv
  clear h hR hok hle ka hd
  have k2:Same0 (w.alloc zeroCs) (W1.alloc (.cells #[.int .i64 80,.int .i64 0] 92)):=by rw [hW1];exact (Kept.refl _ _).alloc _
  obtain ⟨⟨r0,r1,r2,r3⟩,f0,f1,f2,f3⟩:=res_get _ k2
  obtain ⟨⟨g0,g1,g2,g3⟩,kk,ks⟩:=res_put (w:=w) (x0:=.int .i64 0) (x1:=.int .i64 0) (x2:=.slice none 0 0) (x3:=.slice none 0 0) _ k2
  have HF:=HP.out _ _ ks ((wrs_one W1 80 0 92).kept8 kk (fun b ⟨l,c,e⟩ e2=>by
   simp only [Value.slice.injEq,Option.some.injEq,Addr.mk.injEq] at e
   have e' : b=w.heap.size:=e2
   have:=HEZ.out
   omega)) (fun a l c e=>by
   simp only [Value.slice.injEq,Option.some.injEq] at e
   obtain ⟨rfl,_⟩:=e
   have:=HEZ.out
   show w.heap.size≤W1.heap.size
   omega)
  have GG:Hid (_∧_∧_∧_):=⟨g0,g1,g2,g3⟩
  have HF2:Hid (RBldPost _ _ _ _ _ _):=HF
  clear g0 g1 g2 g3 kk ks HF k2
  go_enter Tryz.func9,Tryz.ntmps9
  go_upto_region 1 with fail
  rw [← hW1]
  clear hW1
  go_wp2_with (first | (go_at_call 41;refine CD.mono ?_;rintro e w1 ⟨rfl,rfl⟩))
  obtain ⟨g0,g1,g2,g3⟩:=GG.out
  exact bodyPost_ret (v:=.tuple #[zeroC,.slice (some ⟨w1.heap.size,0,none⟩) 1 1]) (by simp [results,Tryz.results9,go_sem,g0,g1,g2,g3]) rfl HF2.out
 | true=>
  obtain ⟨s,rfl,hs⟩:=def_lt8 hd
  have hArs:=h.2.2.1
  have CF:Hid (∀ ww,Same0 w ww→Calls Tryz.prog 43 #[rv,.int .i64 (s:Int)] ww fun e w' => ∃ fo fc,e=.returned (.slice fo (freshN L s).length fc)∧Hid (IntsAt w' fo (freshN L s)∧(freshN L s).length≤fc)∧Same0 ww w'):=fun ww hk=>(fresh8_any (h.same hk) hs).mono (fun e w' ⟨v,e1,r,k9⟩=>by
   obtain ⟨ao,cap,rfl,ia,ic,_⟩:=r.ints
   exact ⟨ao,cap,e1,⟨ia,ic⟩,k9⟩)
  have CO:Hid (∀ ww,Same0 w ww→Calls Tryz.prog 44 #[.slice mo R.length mc,.int .i64 (s:Int)] ww fun e w' => ∃ oo oc,e=.returned (.slice oo (rootR L R s).length oc)∧Hid (IntsAt w' oo ((rootR L R s).map (·.1)))∧Same0 ww w'):=fun ww hk=>(rof_any (mc:=mc) (hR.same hk) hle (fun x hx=>(ok_len (hok x hx)).1.1) (s:Int)).mono (fun e w' ⟨v,e1,r,k9⟩=>by
   obtain ⟨ao,cap,rfl,ia,_,_⟩:=r.ints
   have hl:(ofF (s:Int) 0 R).length=(rootR L R s).length:=by rw [← root_fst L R s,List.length_map]
   exact ⟨ao,cap,by rw [e1,hl],by rw [root_fst];exact ia,k9⟩)
  have CN:Hid (∀ ww fo fc oo oc,Same0 w ww→IntsAt ww fo (freshN L s)→(freshN L s).length≤fc→IntsAt ww oo ((rootR L R s).map (·.1))→Calls Tryz.prog 42 #[rv,.slice mo R.length mc,.slice fo (freshN L s).length fc,.slice oo (rootR L R s).length oc] ww (NodeOut ww (treeF L R s))):=fun ww fo fc oo oc hk hf hfc ho=>by
   have hd0:=doc_root hok s
   have hn0:=root_ok hArs hle hok hs
   rw [← vp_root] at hn0
   have:=node_any L R 2001 ww rv mo fo oo fc (freshN L s) (rootR L R s) ⟨rl_up (h.same hk) hk.size,hR.same hk,hle,hf,hfc,ho,hd0,hn0⟩ mc oc
   rw [vp_root] at this
   exact this
  rw [hd,← hW1] at CD
  have KW:Same0 w W1:=by rw [hW1];exact ka
  subst hrv
  clear h hR ka hArs hok
  have HD:Hid (defB L (s:Int)=true):=hd
  cases hg:treeF L R s with
  | error z=>
   rw [hg] at CN
   have CE:Hid (∀ ww fo fc oo oc,Same0 w ww→IntsAt ww fo (freshN L s)→(freshN L s).length≤fc→IntsAt ww oo ((rootR L R s).map (·.1))→Calls Tryz.prog 42 #[.slice ro L.length rcap,.slice mo R.length mc,.slice fo (freshN L s).length fc,.slice oo (rootR L R s).length oc] ww fun e w' => e=.returned (.tuple #[zeroC,.int .i64 z])∧Hid (0≤z)∧Same0 ww w'):=fun ww fo fc oo oc h1 h2 h3 h4=>CN.out ww fo fc oo oc h1 h2 h3 h4
   have HP:Hid (∀ v w', Same0 w w' → WrsAt w' v [(81,(s:Int)),(82,z)]→FarW w v→RBldPost L R (s:Int) w (.returned (.tuple #[zeroC,v])) w'):=fun v w' h1 h2 h3=>⟨h1,by rw [if_pos HD.out,Int.toNat_natCast,hg];exact ⟨v,rfl,h2,h3⟩⟩
   clear CN hg hd hle
   generalize freshN L s=fs at *
   generalize rootR L R s=rr at *
   go_enter Tryz.func9,Tryz.ntmps9
   go_upto_region 1 with fail
   rw [← hW1]
   clear hW1
   go_upto_region 4 with (first | (go_at_call 41;refine CD.mono ?_;rintro e w1 ⟨rfl,rfl⟩))
   have C1:=CF.out w1 KW
   go_upto_region 5 with (first
    | (go_at_call 43;refine C1.mono ?_;rintro e w2 ⟨fo,fc,rfl,hf2,k2⟩;have C2:=CO.out w2 (KW.trans' k2))
    | (go_at_call 44;refine C2.mono ?_;rintro e w3 ⟨oo,oc,rfl,ho3,k3⟩;have C3:=CE.out w3 fo fc oo oc ((KW.trans' k2).trans' k3) (hf2.out.1.same k3) hf2.out.2 ho3.out)
    | (go_at_call 42;refine C3.mono ?_;rintro e w4 ⟨rfl,hz4,k4⟩))
   have hz5:=hz4.out
   obtain ⟨w5,hw5⟩:∃ w5,w5=w4.alloc zeroCs:=⟨_,rfl⟩
   have k5:Same0 (w.alloc zeroCs) w5:=by rw [hw5,← HW.out];exact Kept.alloc ((k2.trans' k3).trans' k4) _
   rw [← hw5]
   clear hw5 C1 C2 C3 CE CF CO CD hf2 ho3
   have k6:Same0 (w.alloc zeroCs) (w5.alloc (.cells #[.int .i64 81,.int .i64 (s:Int),.int .i64 82,.int .i64 z] 92)):=Kept.alloc k5 _
   obtain ⟨⟨r0,r1,r2,r3⟩,f0,f1,f2,f3⟩:=res_get _ k6
   obtain ⟨⟨g0,g1,g2,g3⟩,kk,ks⟩:=res_put (w:=w) (x0:=.int .i64 0) (x1:=.int .i64 0) (x2:=.slice none 0 0) (x3:=.slice none 0 0) _ k6
   have z5:=k5.size
   have z6:w.heap.size<w5.heap.size:=by simp at z5;omega
   have HF:=HP.out _ _ ks ((wrs_two w5 81 (s:Int) 82 z rfl).kept8 kk (fun b ⟨l,c,e⟩ e2=>by
    simp only [Value.slice.injEq,Option.some.injEq,Addr.mk.injEq] at e
    have e' : b=w.heap.size:=e2
    omega)) (fun a l c e=>by
    simp only [Value.slice.injEq,Option.some.injEq] at e
    obtain ⟨rfl,_⟩:=e
    show w.heap.size≤w5.heap.size
    omega)
   have GG:Hid (_∧_∧_∧_):=⟨g0,g1,g2,g3⟩
   have HF2:Hid (RBldPost _ _ _ _ _ _):=HF
   clear g0 g1 g2 g3 kk ks HF k5 k6 z5 z6
   go_wp2
   obtain ⟨g0,g1,g2,g3⟩:=GG.out
   exact bodyPost_ret (v:=.tuple #[zeroC,.slice (some ⟨w5.heap.size,0,none⟩) 2 2]) (by simp [results,Tryz.results9,go_sem,g0,g1,g2,g3]) rfl HF2.out
  | ok tt=>
   rw [hg] at CN
   have CE:Hid (∀ ww fo fc oo oc,Same0 w ww→IntsAt ww fo (freshN L s)→(freshN L s).length≤fc→IntsAt ww oo ((rootR L R s).map (·.1))→Calls Tryz.prog 42 #[.slice ro L.length rcap,.slice mo R.length mc,.slice fo (freshN L s).length fc,.slice oo (rootR L R s).length oc] ww fun e w' => ∃ tk tr tpo tpl tpc tko tkl tkc,e=.returned (.tuple #[.agg #[.int .i64 tk,.int .i64 tr,.slice tpo tpl tpc,.slice tko tkl tkc],.int .i64 (-1)])∧Hid (CsB (fun b=>ww.heap.size≤b) w' 2001 (.agg #[.int .i64 tk,.int .i64 tr,.slice tpo tpl tpc,.slice tko tkl tkc]) tt)∧Same0 ww w'):=fun ww fo fc oo oc h1 h2 h3 h4=>by
    refine (CN.out ww fo fc oo oc h1 h2 h3 h4).mono ?_
    rintro e w' ⟨v,rfl,g1,g2⟩
    obtain ⟨tk,tr,tpo,tpl,tpc,tko,tkl,tkc,rfl⟩:=g1.shape
    exact ⟨tk,tr,tpo,tpl,tpc,tko,tkl,tkc,rfl,g1,g2⟩
   have HP:Hid (∀ v w', Same0 w w' → CsB (fun b=>w.heap.size≤b) w' 2001 v tt→RBldPost L R (s:Int) w (.returned (.tuple #[v,.slice none 0 0])) w'):=fun v w' h1 h2=>⟨h1,by rw [if_pos HD.out,Int.toNat_natCast,hg];exact ⟨v,rfl,h2⟩⟩
   clear CN hg hd hle
   generalize freshN L s=fs at *
   generalize rootR L R s=rr at *
   go_enter Tryz.func9,Tryz.ntmps9
   go_upto_region 1 with fail
   rw [← hW1]
   clear hW1
   go_upto_region 4 with (first | (go_at_call 41;refine CD.mono ?_;rintro e w1 ⟨rfl,rfl⟩))
   have C1:=CF.out w1 KW
   go_upto_region 5 with (first
    | (go_at_call 43;refine C1.mono ?_;rintro e w2 ⟨fo,fc,rfl,hf2,k2⟩;have C2:=CO.out w2 (KW.trans' k2))
    | (go_at_call 44;refine C2.mono ?_;rintro e w3 ⟨oo,oc,rfl,ho3,k3⟩;have C3:=CE.out w3 fo fc oo oc ((KW.trans' k2).trans' k3) (hf2.out.1.same k3) hf2.out.2 ho3.out)
    | (go_at_call 42;refine C3.mono ?_;rintro e w4 ⟨tk,tr,tpo,tpl,tpc,tko,tkl,tkc,rfl,hcs,k4⟩))
   obtain ⟨w5,hw5⟩:∃ w5,w5=w4.alloc (.cells #[.int .i64 tk,.int .i64 tr,.slice tpo tpl tpc,.slice tko tkl tkc] 35):=⟨_,rfl⟩
   have k45:Same0 w4 w5:=by rw [hw5];exact (Kept.refl _ _).alloc _
   have k5:Same0 (w.alloc zeroCs) w5:=by rw [← HW.out];exact ((k2.trans' k3).trans' k4).trans' k45
   have b5:w5.heap[w4.heap.size]? = some (.cells #[.int .i64 tk,.int .i64 tr,.slice tpo tpl tpc,.slice tko tkl tkc] 35 (0,0)):=by rw [hw5];exact heap_alloc_new _ _
   rw [← hw5]
   have c0:=cellAt b5 0
   have c1:=cellAt b5 1
   have c2:=cellAt b5 2
   have c3:=cellAt b5 3
   simp only [List.getElem?_toArray,List.getElem?_cons_zero,List.getElem?_cons_succ] at c0 c1 c2 c3
   have hcs5:=hcs.out.same k45
   have z1:=HEZ.out
   have z3:w.heap.size<w3.heap.size:=by have:=k2.size;have:=k3.size;omega
   clear hw5 C1 C2 C3 CE CF CO CD hf2 ho3 hcs b5
   obtain ⟨⟨r0,r1,r2,r3⟩,f0,f1,f2,f3⟩:=res_get _ k5
   obtain ⟨⟨g0,g1,g2,g3⟩,kk,ks⟩:=res_put (w:=w) (x0:=.int .i64 tk) (x1:=.int .i64 tr) (x2:=.slice tpo tpl tpc) (x3:=.slice tko tkl tkc) _ k5
   have HF:=HP.out _ _ ks (CsB.mono (fun b hb q=>by have q' : w3.heap.size≤b:=q;show w.heap.size≤b;omega) (CsB.kept kk (fun b q e=>by have q' : w3.heap.size≤b:=q;have e' : b=w.heap.size:=e;omega) hcs5))
   have GG:Hid (_∧_∧_∧_):=⟨g0,g1,g2,g3⟩
   have HF2:Hid (RBldPost _ _ _ _ _ _):=HF
   clear g0 g1 g2 g3 kk ks HF k5 hcs5 z1 z3
   go_wp2
   obtain ⟨g0,g1,g2,g3⟩:=GG.out
   exact bodyPost_ret (v:=.tuple #[.agg #[.int .i64 tk,.int .i64 tr,.slice tpo tpl tpc,.slice tko tkl tkc],.slice none 0 0]) (by simp [results,Tryz.results9,go_sem,g0,g1,g2,g3]) rfl HF2.out
def rulesF:(n:Nat)→Tr n→List Int
 | 0,_=>[]
 | n+1,(k,r,p,l)=>if k=1 then [r] else if k=2 then l.flatMap (fun x=>rulesF n x.2) else []
def SmK:(n:Nat)→Tr n→Prop
 | 0,_=>True
 | n+1,(k,r,p,l)=>l.length≤1000000000∧∀ i (h:i<l.length),SmK n l[i].2
structure RAt (w:World) (lb base:Nat) (lv:Value) (out:List Int):Prop where
 blk:w.heap[lb]? = some (.cells #[lv] 32 (0,0))
 row:Row base w lv out
theorem RAt.far {w:World} {lb base:Nat} {lv:Value} {out:List Int} (h:RAt w lb base lv out):¬ lv.ownBlock=some lb:=fun e=>by
 obtain ⟨c,hc⟩:=own_blk h.row e
 rw [h.blk] at hc;cases hc
theorem RAt.lt {w:World} {lb base:Nat} {lv:Value} {out:List Int} (h:RAt w lb base lv out):lb<w.heap.size∧∀ q,lv.ownBlock=some q→q<w.heap.size:=⟨lt_of_at h.blk,fun q e=>by obtain ⟨c,hc⟩:=own_blk h.row e;exact lt_of_at hc⟩
theorem RAt.same {w w' : World} {lb base:Nat} {lv:Value} {out:List Int} (h:RAt w lb base lv out) (hk:Same0 w w'):RAt w' lb base lv out:=⟨hk.at0 h.blk,hk.row h.row (fun _ _ f=>f)⟩
abbrev T3:=Nat × Nat × Nat
def add3 (a b:T3):T3:=(a.1+b.1,a.2.1+b.2.1,a.2.2+b.2.2)
def sum3 {α:Type} (f:α→T3):List α→T3
 | []=>(0,0,0)
 | x :: r=>add3 (f x) (sum3 f r)
theorem sum3_append {α:Type} (f:α→T3):∀ (a b:List α),sum3 f (a++b)=add3 (sum3 f a) (sum3 f b)
 | [],b=>by simp [sum3,add3]
 | x :: r,b=>by
  rw [List.cons_append,sum3,sum3,sum3_append f r b]
  simp only [add3,Nat.add_assoc]
def kind3 (k:Int):T3:=if k=1 then (1,0,0) else if k=2 then (0,1,0) else if k=3 then (0,0,1) else (0,0,0)
def szT:(n:Nat)→Tr n→T3
 | 0,_=>(0,0,0)
 | n+1,(k,r,p,l)=>add3 (kind3 k) (if k=2 then sum3 (fun x=>szT n x.2) l else (0,0,0))
structure SAt (w:World) (x y z:Nat) (a:T3):Prop where
 bx:w.heap[x]? = some (.cells #[.int .i64 (a.1:Int)] 3 (0,0))
 by' : w.heap[y]? = some (.cells #[.int .i64 (a.2.1:Int)] 3 (0,0))
 bz:w.heap[z]? = some (.cells #[.int .i64 (a.2.2:Int)] 3 (0,0))
 xy:x≠y
 xz:x≠z
 yz:y≠z
def In3 (x y z q:Nat):Prop:=q=x∨q=y∨q=z
theorem SAt.same {w w' : World} {x y z:Nat} {a:T3} (h:SAt w x y z a) (hk:Same0 w w'):SAt w' x y z a:=⟨hk.at0 h.bx,hk.at0 h.by', hk.at0 h.bz,h.xy,h.xz,h.yz⟩
theorem SAt.lt {w:World} {x y z:Nat} {a:T3} (h:SAt w x y z a):∀ q,In3 x y z q→q<w.heap.size:=by
 rintro q (rfl | rfl | rfl)
 ·exact lt_of_at h.bx
 ·exact lt_of_at h.by'
 ·exact lt_of_at h.bz
end Go.Proofs.YtoajbpmgoklflaaGreat
