import Derived.Test.YtflcpepjmonlpaaGreatDoorSL12
import Derived.Test.YtflcpepjmonlpaaGreatDoorSL08
import Derived.Test.YtflcpepjmonlpaaGreatDoorSL01
import Derived.RangeFuncNested
import Derived.RangeFuncLeaves
import Derived.RangeFuncBox
import Derived.Shelf.Abstract
import Derived.OwnWalkIn
import Derived.TacticsInMore
import Derived.LoopNIn
import Derived.LoopIn
import Derived.Test.YtflcpepjmonlpaaGreatDoorSL02
import Derived.Test.YtflcpepjmonlpaaGreatDoorSL06
namespace Go.Proofs.YtflcpepjmonlpaaGreatDoor
set_option maxRecDepth 100000
set_option linter.unusedVariables false
open Go.RowKit
attribute [local go_sem ↓] Go.wp_at_zero Go.wp_at_succ
def CtAt (B:Nat→Prop) (w:World) (tb:Nat) (s:St9):Prop:=
 ∃ vi vp,w.heap[tb]? = some (.cells #[vi,vp] 223 (0,0))∧¬ B tb∧Lay B w vi vp s
theorem CtAt.mono {B B' : Nat→Prop} {w:World} {tb:Nat} {s:St9} (h:CtAt B w tb s) (hB:∀ b,b<w.heap.size→B' b→B b):CtAt B' w tb s:=by
 obtain ⟨vi,vp,h1,h2,h3⟩:=h
 exact ⟨vi,vp,h1,fun q=>h2 (hB _ (lt_of_at h1) q),h3.mono hB⟩
theorem CtAt.same {B:Nat→Prop} {w w' : World} {tb:Nat} {s:St9} (h:CtAt B w tb s) (hk:Same0 w w'):CtAt B w' tb s:=by
 obtain ⟨vi,vp,h1,h2,h3⟩:=h
 exact ⟨vi,vp,hk.at0 h1,h2,h3.same hk⟩
theorem tab_far {w:World} {tb:Nat} {vi vp:Value} (h:w.heap[tb]? = some (.cells #[vi,vp] 223 (0,0))):(∀ cur,w.heap[tb]? ≠ some (.cells cur 3 (0,0)))∧(∀ cur,w.heap[tb]? ≠ some (.cells cur 129 (0,0)))∧(∀ cur,w.heap[tb]? ≠ some (.cells cur 51 (0,0))):=
 ⟨(fun cur e=>by rw [h] at e;cases e),(fun cur e=>by rw [h] at e;cases e),(fun cur e=>by rw [h] at e;cases e)⟩
theorem tput_end {B:Nat→Prop} {w w1:World} {tb:Nat} {vi vp vi' : Value} {s:St9} (hb:w.heap[tb]? = some (.cells #[vi,vp] 223 (0,0))) (hnb:¬ B tb) (h:Lay B w vi vp s) (x:I3) (hr:w1.ownsRow 0 129 3 vi' (s.1.length+1) (insV s.1 ++ [.int .i64 x.1,.int .i64 x.2.1,.int .i64 x.2.2])) (hk:Kept (fun k=>vi.ownBlock=some k) w w1) (hn:∀ k,vi'.ownBlock=some k→vi.ownBlock=some k∨w.heap.size≤k) (hB:∀ b,B b→b<w.heap.size) :
  w1.heap[tb]? = some (.cells #[vi,vp] 223 (0,0))∧CtAt B (w1.setCell ⟨tb,0,none⟩ vi') tb (s.1 ++ [x],s.2)∧Kept (fun k=>¬ B k) w (w1.setCell ⟨tb,0,none⟩ vi'):=by
 have ne:¬ vi.ownBlock=some tb:=fun e=>by
  obtain ⟨cur,hc⟩:=own_typed h.ri e
  rw [hb] at hc;cases hc
 have hb1:=hk.at hb ne
 have hl:=h.ins x hr hk hn hB
 have ks:Kept (fun k=>k=tb) w1 (w1.setCell ⟨tb,0,none⟩ vi'):=kept_at _ _ _ _
 refine ⟨hb1,⟨vi', vp,?_,hnb,hl.kept ks (fun k e=>by subst e;exact tab_far hb1)⟩,?_⟩
 ·rw [setAt hb1];rfl
 ·exact Kept.trans (hk.mono (fun k _ e=>h.ib k e)) ks (fun k _ e=>by subst e;exact hnb)
set_option maxHeartbeats 8000000 in
theorem tput_any {B:Nat→Prop} {w:World} {tb:Nat} {s:St9} (h:CtAt B w tb s) (hB:∀ b,B b→b<w.heap.size) (hs:s.1.length≤1000000000000) (x y z:Int) :
  Calls Tryz.prog 177 #[.pointer (some ⟨tb,0,none⟩),.agg #[.int .i64 x,.int .i64 y,.int .i64 z]] w fun e w' => (∃ u,e=.returned u)∧CtAt B w' tb (s.1 ++ [(x,y,z)],s.2)∧Kept (fun k=>¬ B k) w w' := by
 obtain ⟨vi,vp,hb,hnb,hl⟩:=h
 obtain ⟨io,ic,rfl⟩:=row_shape hl.ri
 obtain ⟨i0,hi0,hz0,hz1,hz2⟩:=info_parts info_ins
 have hn1:s.1.length+1≤maxLen:=by unfold maxLen;omega
 have hn2:(s.1.length+1) * 24≤140737488355328:=by omega
 obtain ⟨W1,hW1⟩:∃ W1,W1=w.alloc (.cells #[.int .i64 x,.int .i64 y,.int .i64 z] 129):=⟨_,rfl⟩
 have KW:Same0 w W1:=by rw [hW1];exact (Kept.refl _ w).alloc _
 have hbx:W1.heap[w.heap.size]? = some (.cells #[.int .i64 x,.int .i64 y,.int .i64 z] 129 (0,0)):=by rw [hW1];exact heap_alloc_new w _
 have hb1:=KW.at0 hb
 have hr1:=KW.row hl.ri (fun _ _ f=>f)
 have x0:=cellAt hbx 0
 have x1:=cellAt hbx 1
 have x2:=cellAt hbx 2
 have c0:=cellAt hb1 0
 have f0:=frozenAt hb1 0
 have c1:(W1.alloc (.cells #[.int .i64 x,.int .i64 y,.int .i64 z] 129)).cell? ⟨tb,0,none⟩=some (.slice io s.1.length ic):=cellAt ((heap_alloc_old W1 _ (lt_of_at hb1)).trans hb1) 0
 simp only [List.getElem?_toArray,List.getElem?_cons_zero,List.getElem?_cons_succ] at x0 x1 x2 c0 c1
 have FIN:Hid (∀ gg cap w1,w1.ownsRow 0 129 3 (.slice (some ⟨gg,0,none⟩) (s.1.length+1) cap) (s.1.length+1) (insV s.1 ++ [.int .i64 x,.int .i64 y,.int .i64 z])→Kept (fun k=>(Value.slice io s.1.length ic).ownBlock=some k) W1 w1→((Value.slice io s.1.length ic).ownBlock=some gg∨gg=W1.heap.size+1)→(w1.cell? ⟨tb,0,none⟩=some (.slice io s.1.length ic)∧w1.frozen? ⟨tb,0,none⟩=false)∧CtAt B (w1.setCell ⟨tb,0,none⟩ (.slice (some ⟨gg,0,none⟩) (s.1.length+1) cap)) tb (s.1 ++ [(x,y,z)],s.2)∧Kept (fun k=>¬ B k) w (w1.setCell ⟨tb,0,none⟩ (.slice (some ⟨gg,0,none⟩) (s.1.length+1) cap))):=by
  intro gg cap w1 hr hk hat
  obtain ⟨a1,a2,a3⟩:=tput_end hb1 hnb (hl.same KW) (x,y,z) hr hk (fun k e=>by
   simp only [Value.ownBlock,Option.some.injEq] at e
   subst e
   rcases hat with q | q
   ·exact .inl q
   ·exact .inr (by omega)) (fun b q=>Nat.lt_of_lt_of_le (hB b q) KW.size)
  exact ⟨⟨cellAt a1 0,frozenAt a1 0⟩,a2,Kept.trans (KW.mono (fun _ _ f=>f.elim)) a3 (fun _ _ e=>e)⟩
 clear hl hb hbx
 go_enter Tryz.func177,Tryz.ntmps177
 go_upto_region 1 with fail
 rw [← hW1]
 clear hW1
 go_region_law ((refine step_append_lies _ (by rfl) _ _ _ (by rfl) 0 129 i0 _ 3 24 Tryz.underlying49 hi0 hz0 hz1 hz2 rfl (by omega) (.slice io s.1.length ic) s.1.length (insV s.1) (by rfl) ((hr1.alloc _).drew) ⟨W1.heap.size,0,none⟩ 1 1 [.int .i64 x,.int .i64 y,.int .i64 z] (by rfl) (by rfl) (World.news_of_block (cs:=#[.int .i64 x,.int .i64 y,.int .i64 z]) (t:=129) (fr:=(0,0)) (heap_alloc_new W1 _)) (by simp [Value.oneCell']) (by omega) hn1 hn2 (by omega) (W1.heap.size+1) (by simp) ?_;intro gg cap w1 hown1 hgrow hat hlt;obtain ⟨⟨k0,k1⟩,k2,k3⟩:=FIN.out gg cap w1 hown1 (Kept.grown (Kept.drew (Kept.alloc (Kept.refl _ W1) _)) hgrow (fun _ e _=>e)) hat))
 all_goals
  go_wp2
  go_returns
  exact ⟨⟨_,rfl⟩,k2,k3⟩
theorem Row.arg8 {base:Nat} {w:World} {v:Value} {xs:List Int} (h:Row base w v xs) (hl:xs.length * 8≤140737488351232):∃ ao ac,v=.slice ao xs.length ac∧ArgT w ao xs ac∧∀ a,ao=some a→base≤a.block:=by
 obtain ⟨ao,ac,e,h1,h2,h3⟩:=h.ints
 rcases h.2 with ⟨e2,h0⟩ | ⟨g,cap,cur,e2,hb,hg,hle,hmx,hsz,_⟩
 ·rw [e] at e2
  simp only [Value.slice.injEq] at e2
  obtain ⟨rfl,_,rfl⟩:=e2
  exact ⟨none,0,e,⟨⟨h1,by omega,fun _=>⟨h0,rfl⟩,by omega⟩,(fun a e=>by cases e),fun a e=>by cases e⟩,fun a e=>by cases e⟩
 ·rw [e] at e2
  simp only [Value.slice.injEq] at e2
  obtain ⟨rfl,_,rfl⟩:=e2
  exact ⟨_,ac,e,⟨⟨h1,hle,(fun e=>by cases e),by omega⟩,(fun a e=>by cases e;exact ⟨cur,hg⟩),fun a e=>by cases e;exact ⟨g,cur,rfl,hg,by simpa using hsz,hmx⟩⟩,fun a e=>by cases e;exact hb⟩
def LayIH (n:Nat):Prop:=∀ (B:Nat→Prop) (w:World) (tb:Nat) (v:Value) (t:Tr n) (s:St9),CtAt B w tb s→(∀ b,B b→b<w.heap.size)→CsB B w n v t→s.1.length+s.2.length+insN n t≤1000000000000 →
 Calls Tryz.prog 128 #[.pointer (some ⟨tb,0,none⟩),v] w fun e w' => (∃ u,e=.returned u)∧CtAt B w' tb (layS n t s)∧Kept (fun k=>¬ B k) w w'
theorem tpath_end {B:Nat→Prop} {w w1:World} {tb:Nat} {vi vp vp' : Value} {s:St9} (hb:w.heap[tb]? = some (.cells #[vi,vp] 223 (0,0))) (hnb:¬ B tb) (h:Lay B w vi vp s) {vs:List Value} (hp:w.ownsRow 0 51 1 vp s.2.length vs∧PathsC B w vs s.2) {p:List Int} {ao:Option Addr} {ac:Nat} (ha:ArgT w ao p ac) (hab:∀ a,ao=some a→¬ B a.block) (hr:w1.ownsRow 0 51 1 vp' (s.2.length+1) (vs ++ [.slice ao p.length ac])) (hk:Kept (fun k=>vp.ownBlock=some k) w w1) (hn:∀ k,vp'.ownBlock=some k→vp.ownBlock=some k∨w.heap.size≤k) (hB:∀ b,B b→b<w.heap.size) :
  w1.heap[tb]? = some (.cells #[vi,vp] 223 (0,0))∧CtAt B (w1.setCell ⟨tb,1,none⟩ vp') tb (s.1,s.2 ++ [p])∧Kept (fun k=>¬ B k) w (w1.setCell ⟨tb,1,none⟩ vp'):=by
 have ne:¬ vp.ownBlock=some tb:=fun e=>by
  obtain ⟨cur,hc⟩:=own_typed hp.1 e
  rw [hb] at hc;cases hc
 have hb1:=hk.at hb ne
 have hl:=h.path hp ha hab hr hk hn hB
 have ks:Kept (fun k=>k=tb) w1 (w1.setCell ⟨tb,1,none⟩ vp'):=kept_at _ _ _ _
 refine ⟨hb1,⟨vi,vp', ?_,hnb,hl.kept ks (fun k e=>by subst e;exact tab_far hb1)⟩,?_⟩
 ·rw [setAt hb1];rfl
 ·exact Kept.trans (hk.mono (fun k _ e=>h.pb k e)) ks (fun k _ e=>by subst e;exact hnb)
theorem KeptB.trans {B:Nat→Prop} {a b c:World} (h:Kept (fun k=>¬ B k) a b) (k:Kept (fun k=>¬ B k) b c):Kept (fun k=>¬ B k) a c:=Kept.trans h k (fun _ _ e=>e)
theorem KeptB.of {B:Nat→Prop} {a b:World} (h:Same0 a b):Kept (fun k=>¬ B k) a b:=Kept.mono h (fun _ _ f=>f.elim)
theorem KeptB.cs {B B' : Nat→Prop} {w w' : World} (hk:Kept (fun k=>¬ B k) w w') (hB:∀ b,B' b→B b) {n:Nat} {v:Value} {t:Tr n} (h:CsB B' w n v t):CsB B' w' n v t:=CsB.kept hk (fun b q r=>r (hB b q)) h
def BranchIH (n:Nat):Prop:=∀ (B:Nat→Prop) (w:World) (tb:Nat) (k r:Int) (p:List Int) (l:List (Int × Tr n)) (v:Value) (s:St9),CtAt B w tb s→(∀ b,B b→b<w.heap.size)→CsB B w (n+1) v (k,r,p,l)→s.1.length+s.2.length+(3+l.length+sumN (l.map (fun x=>insN n x.2)))≤1000000000000 →
 Calls Tryz.prog 178 #[.pointer (some ⟨tb,0,none⟩),v] w fun e w' => (∃ u,e=.returned u)∧CtAt B w' tb (layK (layS n) l (s.1.length+1) (headS p (l.map (fun x=>x.1)) s))∧Kept (fun k=>¬ B k) w w'
set_option maxHeartbeats 8000000 in
theorem lay_step {n:Nat} (IHB:BranchIH n):LayIH (n+1):=by
 intro B w tb v t s hT hB hC hs
 obtain ⟨k,r,p,l⟩:=t
 obtain ⟨po,pc,ko,kc,rfl,hrest⟩:=hC
 have hC:CsB B w (n+1) (.agg #[.int .i64 k,.int .i64 r,.slice po p.length pc,.slice ko l.length kc]) (k,r,p,l):=⟨po,pc,ko,kc,rfl,hrest⟩
 clear hrest
 obtain ⟨W1,hW1⟩:∃ W1,W1=w.alloc (.cells #[.int .i64 k,.int .i64 r,.slice po p.length pc,.slice ko l.length kc] 63):=⟨_,rfl⟩
 have KW:Same0 w W1:=by rw [hW1];exact (Kept.refl _ w).alloc _
 have hbx:W1.heap[w.heap.size]? = some (.cells #[.int .i64 k,.int .i64 r,.slice po p.length pc,.slice ko l.length kc] 63 (0,0)):=by rw [hW1];exact heap_alloc_new w _
 have x0:=cellAt hbx 0
 have x1:=cellAt hbx 1
 have x2:=cellAt hbx 2
 have x3:=cellAt hbx 3
 simp only [List.getElem?_toArray,List.getElem?_cons_zero,List.getElem?_cons_succ] at x0 x1 x2 x3
 have hB1:∀ b,B b→b<W1.heap.size:=fun b q=>Nat.lt_of_lt_of_le (hB b q) KW.size
 have CP:=fun x y z=>tput_any (hT.same KW) hB1 (by omega) x y z
 rw [insN_eq] at hs
 by_cases h1:k=1
 ·subst h1
  rw [layS_leaf rfl]
  have C:=CP 4 r 0
  clear CP hs hC hT
  go_enter Tryz.func128,Tryz.ntmps128
  go_upto_region 1 with fail
  rw [← hW1]
  clear hW1
  go_wp2_with (first | (go_at_call 177;refine C.mono ?_;rintro e w2 ⟨⟨u,rfl⟩,c1,c2⟩))
  go_returns
  exact ⟨⟨_,rfl⟩,c1,KeptB.trans (KeptB.of KW) c2⟩
 ·by_cases h2:k=2
  ·subst h2
   rw [layS_branch rfl]
   rw [if_pos rfl] at hs
   have C:=IHB B W1 tb 2 r p l _ s (hT.same KW) hB1 (hC.same KW) hs
   clear CP hs hC hT IHB
   go_enter Tryz.func128,Tryz.ntmps128
   go_upto_region 1 with fail
   rw [← hW1]
   clear hW1
   go_wp2_with (first | (go_at_call 178;refine C.mono ?_;rintro e w2 ⟨⟨u,rfl⟩,c1,c2⟩))
   go_returns
   exact ⟨⟨_,rfl⟩,c1,KeptB.trans (KeptB.of KW) c2⟩
  ·rw [layS_fail h1 h2]
   have C:=CP 3 0 0
   have e1:(k == 1)=false:=by simpa using h1
   have e2:(k == 2)=false:=by simpa using h2
   clear CP hs hC hT h1 h2
   go_enter Tryz.func128,Tryz.ntmps128
   go_upto_region 1 with fail
   rw [← hW1]
   clear hW1
   go_wp2_with (first | (go_at_call 177;refine C.mono ?_;rintro e w2 ⟨⟨u,rfl⟩,c1,c2⟩))
   go_returns
   exact ⟨⟨_,rfl⟩,c1,KeptB.trans (KeptB.of KW) c2⟩
def headK (p:List Int) (ks:List Int) (s:St9):St9:=(s.1 ++ [(1,(s.2.length:Int),0)]++ks.map (fun k=>((2,k,0):I3)),s.2 ++ [p])
theorem headK_len (p ks:List Int) (s:St9):(headK p ks s).1.length=s.1.length+1+ks.length∧(headK p ks s).2.length=s.2.length+1:=by simp [headK];omega
theorem headK_snoc (p ks:List Int) (k:Int) (s:St9):headK p (ks ++ [k]) s=((headK p ks s).1 ++ [(2,k,0)],(headK p ks s).2):=by simp [headK]
theorem headK_end (p ks:List Int) (s:St9):headS p ks s=((headK p ks s).1 ++ [(3,0,0)],(headK p ks s).2):=rfl
theorem layK_take {n:Nat} {l:List (Int × Tr n)} {k:Nat} (hk:k<l.length) (c:Nat) (s:St9):layK (layS n) (l.take (k+1)) c s=layS n l[k].2 (setB (layK (layS n) (l.take k) c s).1 (c+k) ((layK (layS n) (l.take k) c s).1.length:Int),(layK (layS n) (l.take k) c s).2):=by
 rw [List.take_add_one,List.getElem?_eq_getElem hk]
 simp only [Option.toList_some]
 rw [layK_snoc,List.length_take,Nat.min_eq_left (Nat.le_of_lt hk)]
theorem layK_le {n:Nat} (l:List (Int × Tr n)) (c:Nat) (s:St9):(layK (layS n) l c s).1.length+(layK (layS n) l c s).2.length≤s.1.length+s.2.length+sumN (l.map (fun x=>insN n x.2))∧s.1.length≤(layK (layS n) l c s).1.length:=by
 obtain ⟨a,b,_⟩:=layK_len (f:=layS n) (g:=insN n) l c s (fun x _ s=>layS_len n x.2 s)
 exact ⟨a,b⟩
theorem sumN_take {n:Nat} {l:List (Int × Tr n)} {k:Nat} (hk:k<l.length):sumN ((l.take k).map (fun x=>insN n x.2))+insN n l[k].2≤sumN (l.map (fun x=>insN n x.2)):=by
 have e:l=l.take k ++ [l[k]]++l.drop (k+1):=by
  rw [List.append_assoc,List.singleton_append,List.getElem_cons_drop,List.take_append_drop]
 have e2:sumN (l.map (fun x=>insN n x.2))=sumN ((l.take k ++ [l[k]]++l.drop (k+1)).map (fun x=>insN n x.2)):=by rw [← e]
 rw [e2,List.map_append,List.map_append,sumN_append,sumN_append]
 simp only [List.map_cons,List.map_nil,sumN];omega
theorem kid_at {B:Nat→Prop} {w:World} {n:Nat} {k r:Int} {p:List Int} {l:List (Int × Tr n)} {po ko:Option Addr} {pc kc:Nat} (h:CsB B w (n+1) (.agg #[.int .i64 k,.int .i64 r,.slice po p.length pc,.slice ko l.length kc]) (k,r,p,l)) {i:Nat} (hi:i<l.length):∃ b off tk tr tpo tpl tpc tko tkl tkc,ko=some ⟨b,off,none⟩∧w.cell? ⟨b,off+i * 5,none⟩=some (.int .i64 l[i].1)∧w.cell? ⟨b,off+i * 5+1,none⟩=some (.int .i64 tk)∧w.cell? ⟨b,off+i * 5+2,none⟩=some (.int .i64 tr)∧w.cell? ⟨b,off+i * 5+3,none⟩=some (.slice tpo tpl tpc)∧w.cell? ⟨b,off+i * 5+4,none⟩=some (.slice tko tkl tkc)∧CsB B w n (.agg #[.int .i64 tk,.int .i64 tr,.slice tpo tpl tpc,.slice tko tkl tkc]) l[i].2:=by
 obtain ⟨po', pc', ko', kc', e,h1,h2,h3,h4,h5⟩:=h
 simp only [Value.agg.injEq,Array.mk.injEq,List.cons.injEq,Value.slice.injEq,true_and,and_true] at e
 obtain ⟨⟨rfl,rfl⟩,rfl,rfl⟩:=e
 rcases h5 with rfl | ⟨b,off,rfl,hb,hl,hc⟩
 ·simp at hi
 ·obtain ⟨c0,c1,c2,c3,q0,q1,q2,q3,q4,q5⟩:=hc i hi
  obtain ⟨tk,tr,tpo,tpl,tpc,tko,tkl,tkc,e⟩:=q5.shape
  simp only [Value.agg.injEq,Array.mk.injEq,List.cons.injEq,and_true] at e
  obtain ⟨rfl,rfl,rfl,rfl⟩:=e
  exact ⟨b,off,tk,tr,tpo,tpl,tpc,tko,tkl,tkc,rfl,q0,q1,q2,q3,q4,q5⟩
set_option maxHeartbeats 32000000 in
theorem branch_step {n:Nat} (IH:LayIH n):BranchIH n:=by
 intro B w tb k r p l v s hT hB hC hs
 obtain ⟨po,pc,ko,kc,rfl,hA,hrest⟩:=hC
 have hC:CsB B w (n+1) (.agg #[.int .i64 k,.int .i64 r,.slice po p.length pc,.slice ko l.length kc]) (k,r,p,l):=⟨po,pc,ko,kc,rfl,hA,hrest⟩
 clear hrest
 obtain ⟨W1,hW1⟩:∃ W1,W1=w.alloc (.cells #[.int .i64 k,.int .i64 r,.slice po p.length pc,.slice ko l.length kc] 63):=⟨_,rfl⟩
 have KW:Same0 w W1:=by rw [hW1];exact (Kept.refl _ w).alloc _
 have hbx:W1.heap[w.heap.size]? = some (.cells #[.int .i64 k,.int .i64 r,.slice po p.length pc,.slice ko l.length kc] 63 (0,0)):=by rw [hW1];exact heap_alloc_new w _
 obtain ⟨B1,hB1⟩:∃ B1:Nat→Prop,B1=fun b=>B b∨b=w.heap.size:=⟨_,rfl⟩
 have LT:Hid (∀ b,B1 b→b<W1.heap.size):=fun b q=>by
  rw [hB1] at q
  rcases q with q | q
  ·exact Nat.lt_of_lt_of_le (hB b q) KW.size
  ·rw [q];exact lt_of_at hbx
 have UP:Hid (∀ b,B b→B1 b):=fun b q=>by rw [hB1];exact .inl q
 have T1:CtAt B1 W1 tb s:=by
  obtain ⟨vi,vp,t1,t2,t3⟩:=hT.mono (B' := B1) (fun b hb q=>by
   rw [hB1] at q
   rcases q with q | q
   ·exact q
   ·omega)
  exact ⟨vi,vp,KW.at0 t1,t2,t3.same KW⟩
 have BX:Hid (∀ ww,Kept (fun k=>¬ B1 k) W1 ww→ww.cell? ⟨w.heap.size,2,none⟩=some (.slice po p.length pc)∧ww.cell? ⟨w.heap.size,3,none⟩=some (.slice ko l.length kc)):=fun ww hk=>by
  have:=hk.at hbx (fun q=>q (by rw [hB1];exact .inr rfl))
  exact ⟨cellAt this 2,cellAt this 3⟩
 have HC:Hid (∀ ww,Kept (fun k=>¬ B1 k) W1 ww→CsB B ww (n+1) (.agg #[.int .i64 k,.int .i64 r,.slice po p.length pc,.slice ko l.length kc]) (k,r,p,l)):=fun ww hk=>KeptB.cs hk UP.out (hC.same KW)
 have PUT:Hid (∀ ww s' x y z,CtAt B1 ww tb s' → W1.heap.size≤ww.heap.size→s'.1.length≤1000000000000→Calls Tryz.prog 177 #[.pointer (some ⟨tb,0,none⟩),.agg #[.int .i64 x,.int .i64 y,.int .i64 z]] ww fun e w' => (∃ u,e=.returned u)∧CtAt B1 w' tb (s'.1 ++ [(x,y,z)],s'.2)∧Kept (fun k=>¬ B1 k) ww w'):=fun ww s' x y z h1 h2 h3=>tput_any h1 (fun b q=>Nat.lt_of_lt_of_le (LT.out b q) h2) h3 x y z
 have LAY:Hid (∀ ww v' t' s', CtAt B1 ww tb s' → W1.heap.size≤ww.heap.size→CsB B ww n v' t' → s'.1.length+s'.2.length+insN n t' ≤ 1000000000000→Calls Tryz.prog 128 #[.pointer (some ⟨tb,0,none⟩),v'] ww fun e w' => (∃ u,e=.returned u)∧CtAt B1 w' tb (layS n t' s')∧Kept (fun k=>¬ B1 k) ww w'):=fun ww v' t' s' h1 h2 h3 h4=>IH B1 ww tb v' t' s' h1 (fun b q=>Nat.lt_of_lt_of_le (LT.out b q) h2) (h3.mono (fun b _ q=>UP.out b q)) h4
 have CLO:Hid (∀ ww,Kept (fun k=>¬ B1 k) W1 ww→Calls Tryz.prog 230 #[.slice po p.length pc] ww fun e w' => ∃ qo qc,e=.returned (.slice qo p.length qc)∧Hid (ArgT w' qo p qc∧∀ a,qo=some a→ww.heap.size≤a.block)∧Same0 ww w'):=fun ww hk=>by
  obtain ⟨po', pc', ko', kc', e,h1,h2,_⟩:=HC.out ww hk
  simp only [Value.agg.injEq,Array.mk.injEq,List.cons.injEq,Value.slice.injEq,true_and,and_true] at e
  obtain ⟨⟨rfl,rfl⟩,_⟩:=e
  refine (cloneI_any h1).mono ?_
  rintro e w' ⟨v,rfl,hr,hk'⟩
  obtain ⟨qo,qc,rfl,g1,g2⟩:=hr.arg8 h1.size
  exact ⟨qo,qc,rfl,⟨g1,g2⟩,hk'⟩
 have FINAL:Hid (∀ ww,CtAt B1 ww tb (layK (layS n) l (s.1.length+1) (headS p (l.map (fun x=>x.1)) s))→Kept (fun k=>¬ B1 k) W1 ww→CtAt B ww tb (layK (layS n) l (s.1.length+1) (headS p (l.map (fun x=>x.1)) s))∧Kept (fun k=>¬ B k) w ww):=fun ww h1 h2=>⟨h1.mono (fun b _ q=>UP.out b q),KeptB.trans (KeptB.of KW) (h2.mono (fun b _ q r=>q (UP.out b r)))⟩
 have hl:l.length≤1000000000000:=by omega
 have HS:Hid (s.1.length+s.2.length+(3+l.length+sumN (l.map (fun x=>insN n x.2)))≤1000000000000):=hs
 have hsz:s.1.length+s.2.length+l.length≤1000000000000:=by omega
 clear hC hA hB hT IH hs hB1 hbx
 obtain ⟨N1,hN1⟩:∃ N1,N1=s.1.length+1:=⟨_,rfl⟩
 have HN1:Hid (N1=s.1.length+1):=hN1
 have hN1b:N1+l.length≤1000000000001:=by omega
 clear hN1
 obtain ⟨i0,hi0,hz0,hz1,hz2⟩:=info_parts info_path
 have TC:Hid (∀ ww s', CtAt B1 ww tb s' → ∃ io ic vo vc,ww.cell? ⟨tb,0,none⟩=some (.slice io s'.1.length ic)∧ww.cell? ⟨tb,1,none⟩=some (.slice vo s'.2.length vc)):=fun ww s' h=>by
  obtain ⟨vi,vp,t1,t2,t3⟩:=h
  obtain ⟨io,ic,rfl⟩:=row_shape t3.ri
  obtain ⟨vs,t4,t5⟩:=t3.rp
  obtain ⟨vo,vc,rfl⟩:=row_shape t4
  exact ⟨io,ic,vo,vc,cellAt t1 0,cellAt t1 1⟩
 obtain ⟨io,ic,vo,vc,c0,c1⟩:=TC.out W1 s T1
 have C1:=PUT.out W1 s 1 (s.2.length:Int) 0 T1 (Nat.le_refl _) (by omega)
 obtain ⟨P,hP⟩:∃ P,P=s.2.length:=⟨_,rfl⟩
 have HP:Hid (P=s.2.length):=hP
 rw [← hP] at c1 C1
 have hPb:P≤1000000000000:=by omega
 clear hP
 go_enter Tryz.func178,Tryz.ntmps178
 go_upto_region 1 with fail
 rw [← hW1]
 clear hW1
 go_upto_region 2 with (first | (go_at_call 177;refine C1.mono ?_;rintro e w2 ⟨⟨u,rfl⟩,T2,k2⟩))
 clear c0 c1 C1 T1
 go_cut [] from 17 to 28 (fun wc=>CtAt B1 wc tb (headK p [] s)∧Kept (fun k=>¬ B1 k) W1 wc)
 case first=>
  rw [HP.out] at T2
  obtain ⟨vi,vp,b2,nb2,L2⟩:=T2
  obtain ⟨vs,r2,p2⟩:=L2.rp
  obtain ⟨vo,vc,rfl⟩:=row_shape r2
  simp only at r2 p2
  rw [← HP.out] at r2
  have hbz:W1.heap.size≤w2.heap.size:=k2.size
  obtain ⟨x2, -⟩:=BX.out w2 k2
  have d1:=cellAt b2 1
  simp only [List.getElem?_toArray,List.getElem?_cons_zero,List.getElem?_cons_succ] at d1
  rw [← HP.out] at d1
  have CC:=CLO.out w2.drew (Kept.drew k2)
  have AT3:Hid (∀ w3,Same0 w2.drew w3→w3.cell? ⟨tb,1,none⟩=some (.slice vo P vc)∧(∀ o,(w3.alloc o).cell? ⟨tb,1,none⟩=some (.slice vo P vc))∧w3.ownsRow 0 51 1 (.slice vo P vc) P vs):=fun w3 hk=>by
   have h3:=hk.at0 (show w2.drew.heap[tb]? = _ from b2)
   have c3:=cellAt h3 1
   simp only [List.getElem?_toArray,List.getElem?_cons_zero,List.getElem?_cons_succ] at c3
   rw [← HP.out] at c3
   exact ⟨c3,fun o=>cell_al c3 o,hk.row (show w2.drew.ownsRow 0 51 1 (.slice vo P vc) P vs from r2) (fun _ _ f=>f)⟩
  have FIN:Hid (∀ w3 qo qc gg cap w4,Same0 w2.drew w3→(ArgT w3 qo p qc∧∀ a,qo=some a→w2.drew.heap.size≤a.block)→w4.ownsRow 0 51 1 (.slice (some ⟨gg,0,none⟩) (P+1) cap) (P+1) (vs ++ [.slice qo p.length qc])→Kept (fun k=>(Value.slice vo P vc).ownBlock=some k) w3 w4→((Value.slice vo P vc).ownBlock=some gg∨gg=w3.heap.size+1)→(w4.cell? ⟨tb,1,none⟩=some (.slice vo P vc)∧w4.frozen? ⟨tb,1,none⟩=false)∧CtAt B1 (w4.setCell ⟨tb,1,none⟩ (.slice (some ⟨gg,0,none⟩) (P+1) cap)) tb (headK p [] s)∧Kept (fun k=>¬ B1 k) W1 (w4.setCell ⟨tb,1,none⟩ (.slice (some ⟨gg,0,none⟩) (P+1) cap))):=by
   intro w3 qo qc gg cap w4 k3 ha hr hk hat
   have k23:Same0 w2 w3:=Kept.trans (Kept.drew (Kept.refl (fun _=>False) w2)) k3 (fun _ _ f=>f)
   have hz3:=k23.size
   rw [HP.out] at hr hk hat ⊢
   have r3:=(AT3.out w3 k3).2.2
   rw [HP.out] at r3
   obtain ⟨a1,a2,a3⟩:=tpath_end (B:=B1) (k23.at0 b2) nb2 (L2.same k23) (vs:=vs) ⟨r3,p2.kept k23 (fun _ f=>f.elim)⟩ ha.1 (fun a e q=>by have:=ha.2 a e;have:=LT.out _ q;have e4:w2.drew.heap.size=w2.heap.size:=rfl;omega) hr hk (fun k e=>by
    simp only [Value.ownBlock,Option.some.injEq] at e
    subst e
    exact hat.imp id (fun q=>by omega)) (fun b q=>by have:=LT.out b q;omega)
   refine ⟨⟨cellAt a1 1,frozenAt a1 1⟩,?_,KeptB.trans (KeptB.trans k2 (KeptB.of k23)) a3⟩
   have e5:headK p [] s=(s.1 ++ [(1,(s.2.length:Int),0)],s.2 ++ [p]):=by simp [headK]
   rw [e5]
   exact a2
  clear L2 p2
  have hn1:P+1≤maxLen:=by unfold maxLen;omega
  go_region_law (first
   | (refine step_append_lies _ (by rfl) _ _ 50 (by rfl) 0 51 i0 _ 1 24 Tryz.underlying50 hi0 hz0 hz1 hz2 rfl (by omega) (.slice vo P vc) P vs (by rfl) (r3.alloc _) ⟨w3.heap.size,0,none⟩ 1 1 [.slice qo p.length qc] (by rfl) (by rfl) (World.news_of_block (cs:=#[.slice qo p.length qc]) (t:=51) (fr:=(0,0)) (heap_alloc_new w3 _)) (by simp [Value.oneCell']) (by omega) hn1 (by omega) (by omega) (w3.heap.size+1) (by simp) ?_;intro gg cap w4 hown hgrow hat hlt;obtain ⟨⟨m0,m1⟩,m2,m3⟩:=FIN.out w3 qo qc gg cap w4 k3 ha.out hown (Kept.grown (Kept.alloc (Kept.refl _ w3) _) hgrow (fun _ e _=>e)) hat)
   | (refine step_callx rfl CC (by simp [go_sem]) ?_;rintro e w3 ⟨qo,qc,rfl,ha,k3⟩;refine ⟨_,rfl,?_⟩;obtain ⟨y1,y2,r3⟩:=AT3.out w3 k3;have y3:=y2 (.cells #[.slice qo p.length qc] 51)))
  all_goals
   go_wp2_with fail
   go_meet
   case rel=>exact ⟨m2,m3⟩
 case rest=>
  obtain ⟨T3,k3⟩:=hcut
  clear T2 k2
  obtain ⟨io,ic,vo,vc,c0,c1⟩:=TC.out wc _ T3
  obtain ⟨-,x3⟩:=BX.out wc k3
  have e0:(headK p [] s).1.length=N1:=by rw [HN1.out];simp [headK]
  rw [e0] at c0
  clear e0 c1
  have H3:Hid (CtAt B1 wc tb (headK p ((l.take 0).map (fun x=>x.1)) s)∧Kept (fun k=>¬ B1 k) W1 wc):=⟨by simpa using T3,k3⟩
  clear T3 k3
  go_upto_region 5 with fail
  go_loopw [37] (fun s37 wr=>∃ k:Nat,k≤l.length∧s37=.int .i64 (k:Int)∧CtAt B1 wr tb (headK p ((l.take k).map (fun x=>x.1)) s)∧Kept (fun k=>¬ B1 k) W1 wr) (fun s37 _=>l.length-(intOf s37).toNat)
  case atStart=>exact ⟨0,Nat.zero_le _,rfl,H3.out⟩
  case round=>
   clear c0 x3 H3
   obtain ⟨j,hj,rfl,hT,hK⟩:=hrel
   by_cases hlt:j<l.length
   ·obtain ⟨kb,koff,tk,tr,tpo,tpl,tpc,tko,tkl,tkc,rfl,q0,q1,q2,q3,q4, -⟩:=kid_at (HC.out wr hK) hlt
    have ka:Same0 wr (wr.alloc (.cells #[.int .i64 l[j].1,.int .i64 tk,.int .i64 tr,.slice tpo tpl tpc,.slice tko tkl tkc] 166)):=(Kept.refl _ _).alloc _
    have CP:=PUT.out _ _ 2 l[j].1 0 (hT.same ka) (Nat.le_trans hK.size ka.size) (by rw [(headK_len _ _ _).1];simp only [List.length_map,List.length_take];have:=HS.out;omega)
    have MORE:Hid (∀ w', CtAt B1 w' tb ((headK p ((l.take j).map (fun x=>x.1)) s).1 ++ [(2,l[j].1,0)],(headK p ((l.take j).map (fun x=>x.1)) s).2)→Kept (fun k=>¬ B1 k) (wr.alloc (.cells #[.int .i64 l[j].1,.int .i64 tk,.int .i64 tr,.slice tpo tpl tpc,.slice tko tkl tkc] 166)) w' → CtAt B1 w' tb (headK p ((l.take (j+1)).map (fun x=>x.1)) s)∧Kept (fun k=>¬ B1 k) W1 w'):=fun w' h1 h2=>by
     refine ⟨?_,KeptB.trans (KeptB.trans hK (KeptB.of ka)) h2⟩
     rw [List.take_add_one,List.getElem?_eq_getElem hlt,List.map_append]
     simp only [Option.toList_some,List.map_cons,List.map_nil]
     rw [headK_snoc]
     exact h1
    have i1:(0:Int)≤(j:Int):=by omega
    have i2:(j:Int)<(l.length:Int):=by omega
    generalize l[j].1=z at *
    clear hT hK PUT LAY CLO FINAL HC BX TC ka
    go_wp2_with (first | (go_at_call 177;refine CP.mono ?_;rintro e w5 ⟨⟨u,rfl⟩,T5,k5⟩))
    have M:=MORE.out w5 T5 k5
    go_roundw
    case rel=>first | exact ⟨j+1,by omega,by go_num,M⟩ | ((repeat apply Exists.intro);exact ⟨⟨j+1,by omega,by go_num,M⟩,rfl⟩)
    case measure=>simp [intOf];omega
   ·obtain rfl:j=l.length:=by omega
    rw [List.take_of_length_le (Nat.le_refl _)] at hT
    have C9:=PUT.out wr _ 3 0 0 hT hK.size (by rw [(headK_len _ _ _).1];simp only [List.length_map];have:=HS.out;omega)
    rw [← headK_end] at C9
    clear hT hlt hj
    go_upto_region 10 with (first | (go_at_call 177;refine C9.mono ?_;rintro e w5 ⟨⟨u,rfl⟩,T5,k5⟩))
    have K5:=KeptB.trans hK k5
    obtain ⟨-,x3⟩:=BX.out w5 K5
    have H5:Hid (CtAt B1 w5 tb (layK (layS n) (l.take 0) N1 (headS p (l.map (fun x=>x.1)) s))∧Kept (fun k=>¬ B1 k) W1 w5):=⟨by simpa [layK] using T5,K5⟩
    clear T5 k5 hK K5 C9 PUT
    go_upto_region 11 with fail
    go_loopw [53] (fun s53 wr=>∃ k:Nat,k≤l.length∧s53=.int .i64 (k:Int)∧CtAt B1 wr tb (layK (layS n) (l.take k) N1 (headS p (l.map (fun x=>x.1)) s))∧Kept (fun k=>¬ B1 k) W1 wr) (fun s53 _=>l.length-(intOf s53).toNat)
    case atStart=>exact ⟨0,Nat.zero_le _,rfl,H5.out⟩
    case round=>
     clear x3 H5
     obtain ⟨j,hj,rfl,hT,hK⟩:=hrel
     by_cases hlt:j<l.length
     ·obtain ⟨kb,koff,tk,tr,tpo,tpl,tpc,tko,tkl,tkc,rfl,q0,q1,q2,q3,q4,q5⟩:=kid_at (HC.out wr hK) hlt
      have hle:=layK_le (l.take j) N1 (headS p (l.map (fun x=>x.1)) s)
      have hst:=sumN_take (n:=n) hlt
      have e1:(headS p (l.map (fun x=>x.1)) s).1.length=N1+l.length+1:=by rw [HN1.out];simp [headS];omega
      have e2:(headS p (l.map (fun x=>x.1)) s).2.length=s.2.length+1:=by simp [headS]
      rw [e1,e2] at hle
      have NX:=layK_take hlt N1 (headS p (l.map (fun x=>x.1)) s)
      have HNX:Hid _:=NX
      obtain ⟨SJ,hSJ⟩:∃ SJ,SJ=layK (layS n) (l.take j) N1 (headS p (l.map (fun x=>x.1)) s):=⟨_,rfl⟩
      rw [← hSJ] at hle hT HNX
      clear hSJ NX e1 e2
      have hsj:SJ.1.length+SJ.2.length+insN n l[j].2≤1000000000000:=by have:=HS.out;have:=HN1.out;omega
      obtain ⟨Q,hQ⟩:∃ Q,Q=N1+j:=⟨_,rfl⟩
      have hQn:Q<SJ.1.length:=by omega
      obtain ⟨vi,vp,b3,nb3,L3⟩:=hT
      obtain ⟨g,cap,rfl⟩:∃ g cap,vi=.slice (some ⟨g,0,none⟩) SJ.1.length cap:=by
       rcases L3.ri.2 with ⟨_,e0⟩ | ⟨g,cap,_,e0,_⟩
       ·omega
       ·exact ⟨g,cap,e0⟩
      obtain ⟨W,hW⟩:∃ W,W=wr.alloc (.cells #[.int .i64 l[j].1,.int .i64 tk,.int .i64 tr,.slice tpo tpl tpc,.slice tko tkl tkc] 166):=⟨_,rfl⟩
      have ka:Same0 wr W:=by rw [hW];exact (Kept.refl _ _).alloc _
      have bK:W.heap[wr.heap.size]? = some (.cells #[.int .i64 l[j].1,.int .i64 tk,.int .i64 tr,.slice tpo tpl tpc,.slice tko tkl tkc] 166 (0,0)):=by rw [hW];exact heap_alloc_new _ _
      obtain ⟨L4,⟨old,o1⟩,o2,ks⟩:=(L3.same ka).setB rfl hQn (SJ.1.length:Int)
      have gl:g<wr.heap.size:=typed_lt L3.ri rfl
      have hg:¬ B1 g:=L3.ib g rfl
      have b4:=ka.at0 b3
      have c4:=cellAt b4 0
      simp only [List.getElem?_toArray,List.getElem?_cons_zero] at c4
      have ntb:¬ tb=g:=fun e=>by
       obtain ⟨cur,hc⟩:=own_typed L3.ri rfl
       rw [← e,b3] at hc;cases hc
      have T6:CtAt B1 (W.setCell ⟨g,Q * 3+2,none⟩ (.int .i64 (SJ.1.length:Int))) tb (setB SJ.1 Q (SJ.1.length:Int),SJ.2):=⟨_,vp,ks.at b4 ntb,nb3,L4⟩
      have K6:Kept (fun k=>¬ B1 k) W1 (W.setCell ⟨g,Q * 3+2,none⟩ (.int .i64 (SJ.1.length:Int))):=KeptB.trans (KeptB.trans hK (KeptB.of ka)) (ks.mono (fun k _ e=>by rw [e];exact hg))
      have bK6:=ks.at bK (fun e=>by omega)
      have z1:=cellAt bK6 1
      have z2:=cellAt bK6 2
      have z3:=cellAt bK6 3
      have z4:=cellAt bK6 4
      simp only [List.getElem?_toArray,List.getElem?_cons_zero,List.getElem?_cons_succ] at z1 z2 z3 z4
      have kd:Same0 (W.setCell ⟨g,Q * 3+2,none⟩ (.int .i64 (SJ.1.length:Int))) (W.setCell ⟨g,Q * 3+2,none⟩ (.int .i64 (SJ.1.length:Int))).drew:=Kept.drew (Kept.refl _ _)
      have C6:=LAY.out _ _ _ _ (T6.same kd) (Nat.le_trans K6.size kd.size) (CsB.same (CsB.kept ks (fun b q e=>by rw [e] at q;exact hg (UP.out _ q)) (q5.same ka)) kd) (by simp only [setB_length];exact hsj)
      have MORE:Hid (∀ w', CtAt B1 w' tb (layS n l[j].2 (setB SJ.1 Q (SJ.1.length:Int),SJ.2))→Kept (fun k=>¬ B1 k) (W.setCell ⟨g,Q * 3+2,none⟩ (.int .i64 (SJ.1.length:Int))).drew w' → CtAt B1 w' tb (layK (layS n) (l.take (j+1)) N1 (headS p (l.map (fun x=>x.1)) s))∧Kept (fun k=>¬ B1 k) W1 w'):=fun w' h1 h2=>by
       refine ⟨?_,KeptB.trans (KeptB.trans K6 (KeptB.of kd)) h2⟩
       rw [HNX.out,← hQ]
       exact h1
      have i1:(0:Int)≤(j:Int):=by omega
      have i2:(j:Int)<(l.length:Int):=by omega
      have hQi:(N1:Int)+(j:Int)=(Q:Int):=by omega
      obtain ⟨M,hM⟩:∃ M,M=SJ.1.length:=⟨_,rfl⟩
      have hMb:M≤1000000000000:=by omega
      have i3:(Q:Int)<(M:Int):=by omega
      have i4:(0:Int)≤(Q:Int):=by omega
      have j1:(N1:Int)≤1000000000001:=by omega
      have j2:(j:Int)≤1000000000001:=by omega
      rw [← hM] at c4 C6 MORE z1 z2 z3 z4
      generalize l[j].1=z at *
      clear hK T6 K6 kd L3 L4 b3 b4 ks bK6 bK LAY CLO FINAL HC BX TC q5 hle hst hsj hQn hM hQ HNX HS
      go_upto_region 13 with fail
      rw [← hW]
      clear hW ka
      go_region
      all_goals
       go_wp2_with (first | (go_at_call 128;refine C6.mono ?_;rintro e w7 ⟨⟨u,rfl⟩,T7,k7⟩))
       have MM:=MORE.out w7 T7 k7
       go_roundw
       case rel=>first | exact ⟨j+1,by omega,by go_num,MM⟩ | ((repeat apply Exists.intro);exact ⟨⟨j+1,by omega,by go_num,MM⟩,rfl⟩)
       case measure=>simp [intOf];omega
     ·obtain rfl:j=l.length:=by omega
      rw [List.take_of_length_le (Nat.le_refl _)] at hT
      rw [HN1.out] at hT
      have F:=FINAL.out _ hT hK
      clear hT hK LAY CLO FINAL HC BX TC HS HN1
      go_wp2_with fail
      go_returns
      exact ⟨⟨_,rfl⟩,F⟩
theorem lay_any:∀ n,LayIH n
 | 0=>fun B w tb v t s hT hB hC hs=>hC.elim
 | n+1=>lay_step (branch_step (lay_any n))
end Go.Proofs.YtflcpepjmonlpaaGreatDoor
namespace Go.Proofs.YtflcpepjmonlpaaGreatDoor
set_option linter.unusedVariables false
open Go.RowKit
theorem putObj_at {W:World} {l k:Nat} {o o' x:Obj} (hl:W.heap[l]? = some o) (hx:o.isCells=false) (hk:W.heap[k]? = some x) (hc:x.isCells=true):(W.putObj l o').heap[k]? = some x:=by
 have:k≠l:=fun e=>by subst e;rw [hl] at hk;cases hk;rw [hx] at hc;cases hc
 exact (World.putObj_heap_other this).trans hk
structure Rnd (D B:Nat) (W W' : World):Prop where
 recs:KeepsFrom D W W'
 below:Below B W W'
theorem Rnd.trans {D B:Nat} {X Y Z:World} (h:Rnd D B X Y) (k:Rnd D B Y Z):Rnd D B X Z:=⟨h.recs.trans k.recs,h.below.trans k.below⟩
theorem Rnd.same {D B:Nat} {W W' : World} (h:Same0 W W') (hB:B≤W.heap.size):Rnd D B W W' :=
 ⟨⟨h.size,fun k o _ hk _=>h.at0 hk⟩,h.below.mono hB⟩
theorem below_put {B l:Nat} {W:World} {o o' : Obj} (hl:W.heap[l]? = some o) (hB:B≤l):Below B W (W.putObj l o'):=
 ⟨rfl,rfl,rfl,by simp,fun k hk=>World.putObj_heap_other (by omega)⟩
section
variable {F : Fence} {n : Nat} {P : Program}
def Hands (F:Fence) (n:Nat) (P:Program) (gf:Nat) (lb:Array Value) (B N:Nat) (Lk:Nat→Array Value→World→Prop) (w:World):Prop:=
 ∀ (l:Nat) (J:Nat→World→Prop) (W:World),Same0 w W→(∀ k X Y,J k X→Same0 X Y→J k Y) →
  (∀ k vs X,k<N→J k X→Lk k vs X→YieldAt F (n-1) P l vs X fun e Y=>e=.returned (.bool true)∧J (k+1) Y∧Below B X Y)→J 0 W →
  CallsIn F n P gf (#[.func (.yield l) #[] #[]]++lb) W fun e Y=>(∃ v,e=.returned v)∧J N Y
theorem wp_hands {g:Operand} {ps:Array Tmp} {assign body:Code} {Q:Exit→Act→World→Prop} {a:Act} {w:World}
  (hro:F.round=none) (h1:1≤n) {gf:Nat} {lb:Array Value} (hg:a.eval g=.func (.func gf) #[] lb) (hFg:F.fn gf) (eg:∀ args w,(callFunc gf args).run P w=.ok (.enter gf args) w)
  {N:Nat} {Lk:Nat→Array Value→World→Prop} {B:Nat} (hB:B≤w.heap.size) (hh:Hands F (n-1) P gf lb B N Lk w) (hsz:∀ k vs W,Lk k vs W→vs.size=ps.size)
  (J:Nat→World→Prop) (hJ:∀ k X Y,J k X→Same0 X Y→J k Y) (hJp:∀ k X l o o', J k X→X.heap[l]? = some o→o.isCells=false→w.heap.size≤l→J k (X.putObj l o')) (h0:J 0 w)
  (hround:∀ (l k:Nat) (vs:Array Value) (W:World),k<N→w.heap.size≤l→l<W.heap.size→J k W→Lk k vs W →
   assign.wpIn (F.inRound l) (n-1-1) P (Exit.then (fun a' Wa=>Rnd w.heap.size B W Wa∧∀ o o', Wa.heap[l]? = some o→o.isCells=false→o'.isCells=false →
    body.wpIn (F.inRound l) (n-1-1) P (fun e _ Y=>e=.normal∧Rnd w.heap.size B (Wa.putObj l o') Y∧J (k+1) Y) a' (Wa.putObj l o')) (fun _ _ _=>False))
    { tmps:=(ps.zip vs).foldl (fun t (p,v)=>t.setIfInBounds p v) a.tmps,defers:=[] } W)
  (hdone:∀ (D:Nat) (W:World),w.heap.size≤D→J N W→W.heap[D]? = some (.deferred (some []))→Q .normal { a with defers:={ target:=.collected D,args:=#[] } :: a.defers } W) :
  (Code.rangeFunc g ps assign body).wpIn F n P Q a w:=by
 refine wpIn_rangeFunc fun fn hfn=>?_
 rw [hro]
 have hen:=run_enterLoop_outer (P:=P) (w:=w) fn a.tmps ps assign body
 obtain ⟨st,hst⟩:∃ st:LoopState→Option Code→Loop,st=fun s p=>{ state:=s,pending:=p,fn:=fn,tmps:=a.tmps,params:=ps,assign:=assign,body:=body,defers:=w.heap.size }:=⟨_,rfl⟩
 obtain ⟨W1,hW1⟩:∃ W1,W1=(w.alloc (.deferred (some []))).alloc (.loop (st .ready none)):=⟨_,rfl⟩
 have hs1:Same0 w W1:=by rw [hW1];exact ((Kept.refl _ w).alloc _).alloc _
 have hd1:W1.heap[w.heap.size]? = some (.deferred (some [])):=by
  rw [hW1];exact (Below.heap_alloc _ _ _ (by simp)).trans (World.alloc_heap_new w _)
 have hl1:W1.heap[w.heap.size+1]? = some (.loop (st .ready none)):=by
  have:=World.alloc_heap_new (w.alloc (.deferred (some []))) (.loop (st .ready none))
  rw [hW1];simpa using this
 refine ⟨w.heap.size+1,[{ target:=.collected w.heap.size,args:=#[] }],W1, { target:=.fn (.func gf) lb,args:=#[.func (.yield (w.heap.size+1)) #[] #[]] },W1,gf, #[.func (.yield (w.heap.size+1)) #[] #[]]++lb,W1,?_,?_,?_,?_,fun _=>h1,?_⟩
 ·rw [hen,hW1,hst]
 ·simp only [resolve,hg];simp [go_sem]
 ·intro f' hf'; simp [Target.leads] at hf'; subst hf'; exact hFg
 ·simp [invoke,go_sem,eg]
 ·have hcall:=hh (w.heap.size+1) (fun k X=>J k X∧X.heap[w.heap.size+1]? = some (.loop (st .ready none))∧X.heap[w.heap.size]? = some (.deferred (some []))) W1 hs1
   (fun k X Y h hk=>⟨hJ k X Y h.1 hk,hk.at0 h.2.1,hk.at0 h.2.2⟩) ?_ ⟨hJ 0 _ _ h0 hs1,hl1,hd1⟩
  ·refine hcall.mono ?_
   rintro e Y ⟨⟨v,rfl⟩,hj,hl,hd⟩
   have hend:=run_endLoop (P:=P) hl (by rw [hst];simp)
   rw [hst] at hend
   exact ⟨none,_,hend,hdone w.heap.size _ (Nat.le_refl _) (hJp _ _ _ _ _ hj hl rfl (by omega)) ((World.putObj_heap_other (by omega)).trans hd)⟩
  ·rintro k vs X hk ⟨hj,hl,hd⟩ hlk
   have hy:=run_yield (P:=P) (args:=vs) hl (by rw [hst];exact hsz k vs X hlk)
   rw [hst] at hy
   have hlX:w.heap.size+1<X.heap.size:=(Array.getElem?_eq_some_iff.1 hl).1
   refine ⟨fn,_,assign,body,hy,roundIn_of_wpIn hfn (wpIn_mono (hround (w.heap.size+1) k vs X hk (by omega) hlX hj hlk) ?_)⟩
   rintro e a' Wa hp
   cases e with
   | normal=>
    obtain ⟨hr,hb⟩:=hp
    have hla:=hr.recs.same _ _ (by omega) hl rfl
    have hda:=hr.recs.same _ _ (Nat.le_refl _) hd rfl
    have hlt:w.heap.size+1<Wa.heap.size:=(Array.getElem?_eq_some_iff.1 hla).1
    refine ⟨_,run_beginRound hla (by rw [hst]),wpIn_mono (hb _ (.loop { st .ready none with state:=.busy }) hla rfl rfl) ?_⟩
    rintro e2 a2 Y ⟨rfl,hr2,hj2⟩
    have hl2:=hr2.recs.same _ _ (by omega) (World.putObj_heap_same (o:=.loop { st .ready none with state:=.busy }) hlt) rfl
    have hd2:=hr2.recs.same _ _ (Nat.le_refl _) ((World.putObj_heap_other (o:=.loop { st .ready none with state:=.busy }) (by omega)).trans hda) rfl
    have hend:=run_endRound (P:=P) none hl2
    rw [hst] at hend
    refine ⟨_,_,hend,rfl,⟨hJp _ _ _ _ _ hj2 hl2 rfl (by omega),?_,(World.putObj_heap_other (by omega)).trans hd2⟩,?_⟩
    ·rw [hst];exact World.putObj_heap_same (Array.getElem?_eq_some_iff.1 hl2).1
    ·exact (hr.below.trans (below_put hla (by omega))).trans (hr2.below.trans (below_put hl2 (by omega)))
   | _=>exact hp.elim
end
end Go.Proofs.YtflcpepjmonlpaaGreatDoor
namespace Go.Proofs.YtflcpepjmonlpaaGreatDoor
set_option maxRecDepth 100000
set_option linter.unusedVariables false
open Go.RowKit Go.Shelf
attribute [local go_sem] Oper.semAt_some
def RuLk (R:List Ru) (k:Nat) (vs:Array Value) (W:World):Prop:=
 ∃ (h:k<R.length) (g c g' c' : Nat),vs = #[.int .i64 (k:Int),.agg #[.slice (some ⟨g,0,none⟩) R[k].1.length c,.slice (some ⟨g', 0,none⟩) R[k].2.length c']]∧TmAt W g c R[k].1∧TmAt W g' c' R[k].2
theorem crall_in (F:Fence) (n:Nat) (h22:F.fn 67) (hro:F.round=none) (p0:Option Addr) (w:World) :
  CallsIn F n Tryz.prog 67 #[.pointer p0] w fun e w' => e=.returned (.func (.func 123) #[] #[.pointer (some ⟨w.heap.size,0,none⟩)])∧w' = w.alloc (.cells #[.pointer p0] 43):=by
 refine callsIn_of_wp Tryz.func67 rfl h22 ?_ hro
 simp only [Tryz.ntmps67,List.size_toArray,List.length_cons,List.length_nil,Nat.reduceAdd,Nat.reduceSub,Array.replicate_succ,Array.replicate_zero,List.push_toArray,List.append_toArray,List.nil_append,List.cons_append]
 gi_wp2
 go_ret
 exact ⟨rfl,rfl⟩
set_option maxHeartbeats 8000000 in
theorem hands_rules {n:Nat} {w wx:World} {b bs:Nat} {L:List Sym} {R:List Ru} {lv:Value} {vs:List Value} (hst:StAt w b bs L R lv vs) (hwx:Same0 w wx) {Bn:Nat} (hbx:wx.cell? ⟨Bn,0,none⟩=some (.pointer (some ⟨b,0,none⟩))) (hn:1≤n) :
  Hands Fence.wide n Tryz.prog 123 #[.pointer (some ⟨Bn,0,none⟩)] w.heap.size R.length (RuLk R) wx:=by
 intro l J W hW hJ hY h0
 have hFn:∀ k,Fence.wide.fn k:=fun _=>trivial
 have KW:Same0 w W:=hwx.trans' hW
 have s1:W.cell? ⟨Bn,0,none⟩=some (.pointer (some ⟨b,0,none⟩)):=(hW.cell (p:=⟨Bn,0,none⟩) (World.block_lt_of_cell? _ _ hbx) (fun f=>f)).trans hbx
 obtain ⟨ro,rc,rfl,hrd⟩:=hst.read
 have hle:=hst.le
 have ST:Hid (∀ X,Same0 w X→X.cell? ⟨b,1,none⟩=some (.slice ro R.length rc)∧RsAt X ro R):=fun X hk=>by
  have h1:=hst.same hk
  exact ⟨cellAt h1.blk 1,hrd.rs.same hk⟩
 have OK:Hid (∀ x∈R,(0<x.1.length∧x.1.length≤2000)∧0<x.2.length∧x.2.length≤2000):=fun x hx=>ok_len (hst.ok x hx)
 obtain ⟨s2,_⟩:=ST.out W KW
 have hpn:∀ ww:World,(binOp .eql 43 (.pointer (some ⟨b,0,none⟩)) (.pointer none)).run Tryz.prog ww=.ok (.bool false) ww:=fun ww=>by kernel_rfl
 clear hst hrd
 refine callsIn_of_wp Tryz.func123 rfl trivial ?_ rfl
 simp only [Tryz.ntmps123,List.size_toArray,List.length_cons,List.length_nil,Nat.reduceAdd,Nat.reduceSub,Array.replicate_succ,Array.replicate_zero,List.push_toArray,List.append_toArray,List.nil_append,List.cons_append]
 gi_wp2_with fail
 gi_loopw [12] (fun i wr=>∃ k:Nat,k≤R.length∧i=.int .i64 k∧Same0 w wr∧J k wr) (fun i _=>R.length-(intOf i).toNat)
 case atStart=>exact ⟨0,Nat.zero_le _,rfl,KW,h0⟩
 case round=>
  clear s1 s2
  obtain ⟨k,hk,rfl,hs,hj⟩:=hrel
  by_cases hlt:k<R.length
  ·obtain ⟨s2,s3⟩:=ST.out wr hs
   obtain ⟨gb,goff,rfl,hgb,ao,ac,bo,bc,r0,r1,A1,A2⟩:=s3.get hlt
   have i1:(0:Int)≤(k:Int):=by omega
   have i2:(k:Int)<(R.length:Int):=by omega
   obtain ⟨⟨p1,m1⟩,p2,m2⟩:=OK.out R[k] (List.getElem_mem hlt)
   obtain ⟨wa,hwa⟩:∃ wa,wa=wr.alloc (.cells #[.slice ao R[k].1.length ac,.slice bo R[k].2.length bc] 102):=⟨_,rfl⟩
   have ka:Same0 wr wa:=by rw [hwa];exact (Kept.refl _ _).alloc _
   have hx:wa.heap[wr.heap.size]? = some (.cells #[.slice ao R[k].1.length ac,.slice bo R[k].2.length bc] 102 (0,0)):=by rw [hwa];exact heap_alloc_new _ _
   have y0:=cellAt hx 0
   have y1:=cellAt hx 1
   simp only [List.getElem?_toArray,List.getElem?_cons_zero,List.getElem?_cons_succ] at y0 y1
   have CC:=(callsIn_wide (n:=n-1)).2 (copied_any (ac:=ac) (bc:=bc) (x:=R[k]) (A1.same ka).at' (A2.same ka).at' p1 p2 m1 m2)
   have HYY:Hid (∀ X vs,J k X→RuLk R k vs X→YieldAt Fence.wide (n-1) Tryz.prog l vs X fun e Y=>e=.returned (.bool true)∧J (k+1) Y∧Below w.heap.size X Y):=fun X vs h1 h2=>hY k vs X hlt h1 h2
   have HJJ:Hid (∀ X,Same0 wr X→J k X):=fun X h1=>hJ k wr X hj h1
   gi_wp2_with (gi_at_call 107;rw [← hwa];refine CC.mono ?_;rintro e w3 ⟨g,c,g', c', rfl,t1,t2, -, -, -,k3⟩;obtain ⟨fn,tmps,asg,bdy,hy,hR⟩:=HYY.out w3 _ (HJJ.out w3 (ka.trans' k3)) ⟨hlt,g,c,g', c', rfl,t1,t2⟩)
   refine hR.mono ?_
   rintro e w4 ⟨rfl,hj4,hb4⟩
   have hs4:Same0 w w4:=Same0.of_below ((hs.trans' (ka.trans' k3)).below.trans hb4)
   clear hR hy HYY HJJ CC y0 y1 hx t1 t2
   gi_wp2_with fail
   go_roundw
   case rel=>exact ⟨k+1,by omega,by go_num,hs4,hj4⟩
   case measure=>simp [intOf];omega
  ·obtain rfl:k=R.length:=by omega
   gi_wp2_with fail
   go_end0
   exact ⟨⟨_,rfl⟩,hj⟩
end Go.Proofs.YtflcpepjmonlpaaGreatDoor
namespace Go.Proofs.YtflcpepjmonlpaaGreatDoor
open Go.RowKit Go.Shelf
attribute [local go_sem] Oper.semAt_some
set_option maxHeartbeats 1000000 in
theorem all_in (F:Fence) (n:Nat) (h22:F.fn 33) (hro:F.round=none) (p0:Option Addr) (w:World) :
  CallsIn F n Tryz.prog 33 #[.pointer p0] w fun e w' => e=.returned (.func (.func 73) #[] #[.pointer (some ⟨w.heap.size,0,none⟩)])∧w' = w.alloc (.cells #[.pointer p0] 41):=by
 refine callsIn_of_wp Tryz.func33 rfl h22 ?_ hro
 simp only [Tryz.ntmps33,List.size_toArray,List.length_cons,List.length_nil,Nat.reduceAdd,Nat.reduceSub,Array.replicate_succ,Array.replicate_zero,List.push_toArray,List.append_toArray,List.nil_append,List.cons_append]
 gi_wp2
 go_ret
 exact ⟨rfl,rfl⟩
end Go.Proofs.YtflcpepjmonlpaaGreatDoor
namespace Go.Proofs.YtflcpepjmonlpaaGreatDoor
set_option maxRecDepth 100000
set_option linter.unusedVariables false
open Go.RowKit Go.Shelf
attribute [local go_sem] Oper.semAt_some
def SyLk (L:List Sym) (k:Nat) (vs:Array Value) (W:World):Prop:=∃ h:k<L.length,vs = #[.int .i64 (k:Int),symV L[k]]
set_option maxHeartbeats 8000000 in
theorem hands_syms {n:Nat} {w wx:World} {b:Nat} {L:List Sym} {sv:Value} {mr:Option Nat} (hs:SigAt w b L sv mr) (hwx:Same0 w wx) {Bn:Nat} (hbx:wx.cell? ⟨Bn,0,none⟩=some (.pointer (some ⟨b,0,none⟩))) (hn:1≤n) :
  Hands Fence.wide n Tryz.prog 73 #[.pointer (some ⟨Bn,0,none⟩)] w.heap.size L.length (SyLk L) wx:=by
 intro l J W hW hJ hY h0
 have hFn:∀ k,Fence.wide.fn k:=fun _=>trivial
 have KW:Same0 w W:=hwx.trans' hW
 have s1:W.cell? ⟨Bn,0,none⟩=some (.pointer (some ⟨b,0,none⟩)):=(hW.cell (p:=⟨Bn,0,none⟩) (World.block_lt_of_cell? _ _ hbx) (fun f=>f)).trans hbx
 obtain ⟨ao,cap,rfl⟩:=hs.sv
 have hlen:=hs.len
 have HS:Hid (∀ X,Same0 w X→SigAt X b L (.slice ao L.length cap) mr):=fun X hk=>hs.kept hk (fun _ _ f=>f)
 have c0:W.cell? ⟨b,0,none⟩=some (.slice ao L.length cap):=cellAt (HS.out W KW).blk 0
 have hpn:∀ ww:World,(binOp .eql 41 (.pointer (some ⟨b,0,none⟩)) (.pointer none)).run Tryz.prog ww=.ok (.bool false) ww:=fun ww=>by kernel_rfl
 clear hs
 refine callsIn_of_wp Tryz.func73 rfl trivial ?_ rfl
 simp only [Tryz.ntmps73,List.size_toArray,List.length_cons,List.length_nil,Nat.reduceAdd,Nat.reduceSub,Array.replicate_succ,Array.replicate_zero,List.push_toArray,List.append_toArray,List.nil_append,List.cons_append]
 gi_wp2_with fail
 gi_loopw [12] (fun i wr=>∃ k:Nat,k≤L.length∧i=.int .i64 k∧Same0 w wr∧J k wr) (fun i _=>L.length-(intOf i).toNat)
 case atStart=>exact ⟨0,Nat.zero_le _,rfl,KW,h0⟩
 case round=>
  clear s1 c0
  obtain ⟨k,hk,rfl,hs,hj⟩:=hrel
  by_cases hlt:k<L.length
  ·have hsr:=HS.out wr hs
   obtain ⟨g,rfl,hg,x0,x1,x2⟩:=hsr.sym hlt
   have i1:(0:Int)≤(k:Int):=by omega
   have i2:(k:Int)<(L.length:Int):=by omega
   have ka:Same0 wr (wr.alloc (.cells #[.string L[k].name,.int .i64 L[k].ar,.bool L[k].df] 60)):=(Kept.refl _ _).alloc _
   obtain ⟨fn,tmps,asg,bdy,hy,hR⟩:=hY k _ _ hlt (hJ k _ _ hj ka) ⟨hlt,rfl⟩
   have hs3:=hs.trans' ka
   gi_wp2_with fail
   refine hR.mono ?_
   rintro e w4 ⟨rfl,hj4,hb4⟩
   have hs4:Same0 w w4:=Same0.of_below (hs3.below.trans hb4)
   clear hR hy hsr
   gi_wp2_with fail
   go_roundw
   case rel=>exact ⟨k+1,by omega,by go_num,hs4,hj4⟩
   case measure=>simp [intOf];omega
  ·obtain rfl:k=L.length:=by omega
   gi_wp2_with fail
   go_end0
   exact ⟨⟨_,rfl⟩,hj⟩
end Go.Proofs.YtflcpepjmonlpaaGreatDoor
namespace Go.Proofs.YtflcpepjmonlpaaGreatDoor
set_option linter.unusedVariables false
open Go.RowKit
attribute [local go_sem ↓] Go.wp_at_zero Go.wp_at_succ
def firsts (st:List (Nat × Nat)):List Int:=ofN (st.reverse.map Prod.fst)
theorem firsts_length (st:List (Nat × Nat)):(firsts st).length=st.length:=by simp [firsts,ofN]
theorem firsts_take {st:List (Nat × Nat)} {k:Nat} (h:k<st.length):(firsts st).take (k+1)=(firsts st).take k ++ [((st.reverse[k]'(by simpa using h)).1:Int)]:=by
 rw [List.take_add_one,List.getElem?_eq_getElem (by rw [firsts_length];exact h)]
 simp [firsts,ofN]
set_option maxHeartbeats 4000000 in
theorem tpathv_any {base:Nat} {w:World} {v:Value} {st:List (Nat × Nat)} (hr:w.ownsRow base 402 2 v st.length (turnCells st.reverse)) (hl:st.length≤2000) :
  Calls Tryz.prog 245 #[v] w fun e w' => ∃ v', e=.returned v' ∧ Row w.heap.size w' v' (firsts st)∧Same0 w w' := by
 obtain ⟨vo,vcap,rfl⟩:=row_shape hr
 obtain ⟨i,hi,hz0,hz1,hz2⟩:=info_parts info_intT
 go_enter Tryz.func245,Tryz.ntmps245
 go_wp2_with (first | (at_make;refine wpList_make_full _ rfl _ _ 51 rfl w.heap.size 3 i _ 1 Tryz.underlying51 hi hz0 hz1 _ _ _ _ st.length rfl rfl rfl rfl (by rw [hz2];omega) (by unfold maxLen;omega) (Nat.le_refl _) ?_;intro w3 hown hgrow))
 have L0:Laid w.heap.size w.heap.size st.length 0 ((firsts st).take 0) w w3:=⟨_,hown,by simp [iv],Same0.grown (Kept.refl _ w) hgrow⟩
 clear hown hgrow hi hz0 hz1 hz2
 have HR:Hid (w.ownsRow base 402 2 (.slice vo st.length vcap) st.length (turnCells st.reverse)):=hr
 clear hr
 go_loopw [11] (fun kv wr=>∃ k:Nat,k≤st.length∧kv=.int .i64 (k:Int)∧Laid w.heap.size w.heap.size st.length k ((firsts st).take k) w wr) (fun kv _=>st.length-(intOf kv).toNat)
 case atStart=>exact ⟨0,Nat.zero_le _,rfl,L0⟩
 case round=>
  clear L0
  obtain ⟨k,hk,rfl,hL⟩:=hrel
  by_cases hlt:k<st.length
  ·have hsm:Same0 w wr:=by obtain ⟨_,_,_,h3⟩:=hL;exact h3
   have hrw:=Kept.row hsm HR.out (fun _ _ f=>f)
   obtain ⟨g,cap,hv,_,hg⟩:=hrw.form (by omega)
   simp only [Value.slice.injEq,true_and] at hv
   obtain ⟨rfl,rfl⟩:=hv
   have hkr:k<st.reverse.length:=by simpa using hlt
   obtain ⟨c1,c2⟩:=turnCells_at hkr
   have q1:wr.cell? ⟨g,k * 2,none⟩=some (.int .i64 (st.reverse[k].1:Int)):=by rw [hrw.cellAt _ (by omega)];exact c1
   have q2:wr.cell? ⟨g,k * 2+1,none⟩=some (.int .i64 (st.reverse[k].2:Int)):=by rw [hrw.cellAt _ (by omega)];exact c2
   have e2:Hid ((firsts st).take (k+1)=(firsts st).take k ++ [(st.reverse[k].1:Int)]):=firsts_take hlt
   have i1:(0:Int)≤(k:Int):=by omega
   have i2:(k:Int)<(st.length:Int):=by omega
   generalize st.reverse[k].1=x1 at *
   generalize st.reverse[k].2=x2 at *
   clear hrw c1 c2
   obtain ⟨old,f1,f2⟩:∃ old,wr.cell? ⟨w.heap.size,k,none⟩=some old∧wr.frozen? ⟨w.heap.size,k,none⟩=false:=by obtain ⟨ys,h1,_⟩:=hL;exact row_put h1 hlt
   have hwl:w.heap.size<wr.heap.size:=by obtain ⟨ys,h1,_⟩:=hL;exact (h1.lt _ rfl).2
   have hne:¬ w.heap.size=wr.heap.size:=by omega
   have hLn:=(hL.next hlt (Nat.le_refl _) (x1:Int)).same ((Kept.refl _ _).alloc (.cells #[.int .i64 (x1:Int),.int .i64 (x2:Int)] 402))
   go_wp2
   refine ⟨⟨k+1,by omega,by go_num,?_⟩,by simp [intOf];omega⟩
   rw [e2.out];exact hLn
  ·obtain rfl:k=st.length:=by omega
   have hrr:=hL.row
   obtain ⟨_,_,_,hs⟩:=hL
   go_wp2
   go_ret
   refine ⟨_,rfl,?_,hs⟩
   have:=hrr.1
   rwa [List.take_of_length_le (by rw [firsts_length];exact Nat.le_refl _)] at this
theorem way_length (L:List Sym) (t:List Int) (k:Nat) (hk:k≤t.length):(way L t k).length≤k:=by
 induction k with
 | zero=>simp [way,run]
 | succ k ih=>
  rw [way_succ (by omega)]
  have:=pass_length (way L t k) (arN L (t[k]'(by omega)))
  have:=ih (by omega)
  omega
def WayAt (w:World) (a:Nat) (st:List (Nat × Nat)) (wr:World):Prop:=∃ v,TrailAt w.heap.size wr a v st∧Same0 w wr∧w.heap.size≤a∧∀ k,v.ownBlock=some k→w.heap.size≤k
theorem WayAt.start {w w1:World} (k:Same0 w w1):WayAt w w1.heap.size [] (w1.alloc (.cells #[.slice none 0 0] 369)):=
 ⟨.slice none 0 0,⟨heap_alloc_new w1 _,World.ownsRow_nil _ _ _ _,by simp [Value.ownBlock],fun x hx=>by simp at hx,by simp⟩,k.alloc _,k.size,fun k e=>by simp [Value.ownBlock] at e⟩
theorem WayAt.same {w wr wr' : World} {a:Nat} {st:List (Nat × Nat)} (h:WayAt w a st wr) (k:Same0 wr wr'):WayAt w a st wr' := by
 obtain ⟨v,h1,h2,h3,h4⟩:=h
 exact ⟨v,h1.same k,h2.trans' k,h3,h4⟩
theorem WayAt.pass {w wr:World} {a:Nat} {st:List (Nat × Nat)} (h:WayAt w a st wr) (n:Nat) (hn:n≤6) (hl:st.length<2000) :
  Calls Tryz.prog 244 #[.pointer (some ⟨a,0,none⟩),.int .i64 (n:Int)] wr fun e w' => (∃ x,e=.returned x)∧WayAt w a (Proofs.YtflcpepjmonlpaaGreatDoor.pass st n) w' := by
 obtain ⟨v,h1,h2,h3,h4⟩:=h
 refine (pass_any h1 h2.size n hn hl).mono ?_
 rintro e w' ⟨hx,v', t1,t2,t3⟩
 have hf:∀ k,TFoot a v k→w.heap.size≤k:=fun k hk=>hk.elim (fun e=>by omega) (h4 k)
 refine ⟨hx,v', t1,Kept.trans h2 t2 (fun i hi e=>by have:=hf i e;omega),h3,fun k e=>?_⟩
 rcases t3 k (.inr e) with e1 | e1
 ·exact hf k e1
 ·have:=h2.size;omega
theorem WayAt.cell {w wr:World} {a:Nat} {st:List (Nat × Nat)} (h:WayAt w a st wr):∃ vo vcap,wr.cell? ⟨a,0,none⟩=some (.slice vo st.length vcap)∧wr.ownsRow w.heap.size 402 2 (.slice vo st.length vcap) st.length (turnCells st.reverse):=by
 obtain ⟨v,h1,h2,h3,h4⟩:=h
 obtain ⟨vo,vcap,rfl⟩:=row_shape h1.row
 exact ⟨vo,vcap,cellAt h1.blk 0,h1.row⟩
def pathA (L:List Sym) (t:List Int) (a:Int):List Int:=if placeE L t a=0 then firsts (way L t a.toNat) else []
set_option maxHeartbeats 4000000 in
theorem tpath_any {n b:Nat} {w:World} {L:List Sym} (h:Sg n w b L) {ao:Option Addr} {cap:Nat} {t:List Int} (ht:IntsAt w ao t) (hm:t.length≤maxLen) (hcap:t.length≤cap) (a:Int) :
  Calls Tryz.prog 194 #[.pointer (some ⟨b,0,none⟩),.slice ao t.length cap,.int .i64 a] w fun e w' => ∃ v,e=.returned (.tuple #[v,.int .i64 (placeE L t a)])∧Row w.heap.size w' v (pathA L t a)∧Same0 w w' := by
 have c:=checkPlace_any (cap:=cap) h ht hm a
 by_cases hz:placeE L t a=0
 ·obtain ⟨p,rfl,hp,h0,h1,h2⟩:=place_zero hz
  have H:Hid (placeE L t p=0∧pathA L t p=firsts (way L t p)):=by
   refine ⟨hz,?_⟩
   rw [pathA,if_pos hz];rfl
  have c1:Hid (∀ w1 x,Same0 w w1→Calls Tryz.prog 162 #[.pointer (some ⟨b,0,none⟩),.int .i64 x] w1 fun e w' => e=.returned (.int .i64 ((arN L x:Nat):Int))∧Same0 w1 w'):=fun w1 x hk=>arity_any (h.same hk) x
  have HAR:Hid (∀ x,arN L x≤6):=fun x=>arN_le h.2 x
  have hpc:(p:Int)≤(cap:Int):=by omega
  have i0:(0:Int)≤(p:Int):=by omega
  obtain ⟨tb,off,rfl,htb,hc⟩:=ht.get hp
  clear hc
  rw [hz] at c
  go_enter Tryz.func194,Tryz.ntmps194
  go_wp2_with (first | (go_at_call 108;refine c.mono ?_;rintro e w1 ⟨rfl,hk1⟩))
  have W0:WayAt w w1.heap.size (way L t 0) (w1.alloc (.cells #[.slice none 0 0] 369)):=WayAt.start hk1
  generalize hA:w1.heap.size=A at *
  clear c
  go_loopw [23] (fun kv wr=>∃ k:Nat,k≤p∧kv=.int .i64 (k:Int)∧WayAt w A (way L t k) wr) (fun kv _=>p-(intOf kv).toNat)
  case atStart=>exact ⟨0,Nat.zero_le _,rfl,W0⟩
  case round=>
   clear W0
   obtain ⟨k,hk,rfl,hW⟩:=hrel
   have hs:Same0 w wr:=by obtain ⟨_,_,h2,_⟩:=hW;exact h2
   by_cases hlt:k<p
   ·have hkt:k<t.length:=by omega
    obtain ⟨tb', off', e,_,hcc⟩:=(ht.same hs).get hkt
    simp only [Option.some.injEq,Addr.mk.injEq,and_true] at e
    obtain ⟨rfl,rfl⟩:=e
    have cA:=c1.out wr t[k] hs
    have h6:=HAR.out t[k]
    have E:Hid (way L t (k+1)=pass (way L t k) (arN L t[k])):=way_succ hkt
    have hwl:=way_length L t k (by omega)
    have i1:(0:Int)≤(k:Int):=by omega
    have i2:(k:Int)<(p:Int):=by omega
    generalize arN L t[k]=m at *
    go_wp2_with fail
    refine cA.mono ?_
    rintro e w4 ⟨rfl,k4⟩
    have cP:=(hW.same k4).pass m h6 (by omega)
    clear hW cA
    go_wp2_with fail
    refine cP.mono ?_
    rintro e w5 ⟨⟨x,rfl⟩,hW5⟩
    clear cP
    go_wp2
    refine ⟨⟨k+1,by omega,by go_num,?_⟩,by simp [intOf];omega⟩
    rw [E.out];exact hW5
   ·obtain rfl:k=p:=by omega
    obtain ⟨vo,vcap,q0,q1⟩:=hW.cell
    have hwl:=way_length L t k (by omega)
    have cp:=tpathv_any q1 (by omega)
    clear hW q1
    go_wp2_with fail
    refine cp.mono ?_
    rintro e w6 ⟨v', rfl,hr,k6⟩
    clear cp
    have hr' := row_mono hr hs.size
    go_wp2
    go_ret2
    refine ⟨v', ?_,?_,hs.trans' k6⟩
    ·rw [H.out.1];rfl
    ·rw [H.out.2];exact hr'
 ·have H:Hid (pathA L t a=[]):=by show _=_;rw [pathA,if_neg hz]
  have hz' : (placeE L t a == 0)=false:=by simpa using hz
  go_enter Tryz.func194,Tryz.ntmps194
  go_wp2_with (first | (go_at_call 108;refine c.mono ?_;rintro e w1 ⟨rfl,hk1⟩))
  go_ret2
  refine ⟨_,rfl,?_,hk1⟩
  rw [H.out]
  exact World.ownsRow_nil _ _ _ _
end Go.Proofs.YtflcpepjmonlpaaGreatDoor
namespace Go.Proofs.YtflcpepjmonlpaaGreatDoor
set_option maxRecDepth 100000
set_option linter.unusedVariables false
open Go.RowKit
attribute [local go_sem ↓] Go.wp_at_zero Go.wp_at_succ
def idxG:List Int→Nat→Int→Int
 | [],_,_=>-1
 | x :: r,i,y=>if y=x then (i:Int) else idxG r (i+1) y
def idxI (t:List Int) (y:Int):Int:=idxG t 0 y
theorem idxG_step {t:List Int} {k:Nat} (h:k<t.length) (y:Int):idxG (t.drop k) k y=if y=t[k] then (k:Int) else idxG (t.drop (k+1)) (k+1) y:=by
 rw [List.drop_eq_getElem_cons h,idxG]
set_option maxHeartbeats 2000000 in
theorem indexI_any {w:World} {so:Option Addr} {sc:Nat} {t:List Int} (ht:IntsAt w so t) (hm:t.length≤2000) (y:Int) :
  Calls Tryz.prog 231 #[.slice so t.length sc,.int .i64 y] w fun e w' => e=.returned (.int .i64 (idxI t y))∧w' = w:=by
 go_enter Tryz.func231,Tryz.ntmps231
 go_wp2
 go_loop [8] (fun i=>∃ k:Nat,k≤t.length∧i=.int .i64 (k:Int)∧Hid (idxI t y=idxG (t.drop k) k y)) (fun i=>t.length-(intOf i).toNat)
 case atStart=>exact ⟨0,Nat.zero_le _,rfl,by show _=_;simp [idxI]⟩
 case round=>
  obtain ⟨k,hk,rfl,ha⟩:=hrel
  by_cases hlt:k<t.length
  ·obtain ⟨tb,off,rfl,_,hc⟩:=ht.get hlt
   have i1:(0:Int)≤(k:Int):=by omega
   have i2:(k:Int)<(t.length:Int):=by omega
   by_cases hq:y=t[k]
   ·have H:Hid (idxI t y=(k:Int)):=by rw [ha.out];show _=_;rw [idxG_step hlt,if_pos hq]
    have q1:(y == t[k])=true:=by simpa using hq
    clear hq ha
    go_wp2
    go_ret
    exact ⟨by rw [H.out];rfl,rfl⟩
   ·have H:Hid (idxI t y=idxG (t.drop (k+1)) (k+1) y):=by rw [ha.out];show _=_;rw [idxG_step hlt,if_neg hq]
    have q1:(y == t[k])=false:=by simpa using hq
    clear hq ha
    go_wp2
    exact ⟨⟨k+1,by omega,by go_num,H⟩,by simp [intOf];omega⟩
  ·have H:Hid (idxI t y = -1):=by rw [ha.out];show _=_;rw [List.drop_eq_nil_of_le (by omega)];rfl
   go_wp2
   go_ret
   exact ⟨by rw [H.out];rfl,rfl⟩
def partP (L:List Sym) (left:List Int) (x:Int):Int × List Int:=if 0≤x then (x,[]) else (-1,pathA L left (idxI left x))
theorem pathA_len (L:List Sym) (t:List Int) (a:Int) (hm:t.length≤2000):(pathA L t a).length≤2000:=by
 unfold pathA
 split
 ·rename_i h
  obtain ⟨p,rfl,hp,_⟩:=place_zero h
  rw [firsts_length,Int.toNat_natCast]
  have:=way_length L t p (by omega)
  omega
 ·simp
set_option maxHeartbeats 8000000 in
theorem partOf_any {n b:Nat} {w:World} {L:List Sym} (h:Sg n w b L) {ao:Option Addr} {cap:Nat} {t:List Int} (ht:IntsAt w ao t) (hm:t.length≤2000) (hcap:t.length≤cap) (x:Int) :
  Calls Tryz.prog 179 #[.pointer (some ⟨b,0,none⟩),.slice ao t.length cap,.int .i64 x] w fun e w' => ∃ so sc,e=.returned (.agg #[.int .i64 (partP L t x).1,.slice so (partP L t x).2.length sc])∧Row w.heap.size w' (.slice so (partP L t x).2.length sc) (partP L t x).2∧Same0 w w' := by
 have hmx:t.length≤maxLen:=by unfold maxLen;omega
 obtain ⟨W1,hW1⟩:∃ W1,W1=w.alloc (.cells #[.int .i64 0,.slice none 0 0] 132):=⟨_,rfl⟩
 have KW:Same0 w W1:=by rw [hW1];exact (Kept.refl _ w).alloc _
 have hbx:W1.heap[w.heap.size]? = some (.cells #[.int .i64 0,.slice none 0 0] 132 (0,0)):=by rw [hW1];exact heap_alloc_new w _
 have zW:=lt_of_at hbx
 have RC:Hid (∀ ww,Same0 W1 ww→(ww.cell? ⟨w.heap.size,0,none⟩=some (.int .i64 0)∧ww.cell? ⟨w.heap.size,1,none⟩=some (.slice none 0 0))∧ww.frozen? ⟨w.heap.size,0,none⟩=false∧ww.frozen? ⟨w.heap.size,1,none⟩=false):=fun ww hk=>by
  have:=hk.at0 hbx
  exact ⟨⟨cellAt this 0,cellAt this 1⟩,frozenAt this 0,frozenAt this 1⟩
 have PUT:Hid (∀ ww x y,Same0 W1 ww→(((ww.setCell ⟨w.heap.size,0,none⟩ x).setCell ⟨w.heap.size,1,none⟩ y).cell? ⟨w.heap.size,0,none⟩=some x∧((ww.setCell ⟨w.heap.size,0,none⟩ x).setCell ⟨w.heap.size,1,none⟩ y).cell? ⟨w.heap.size,1,none⟩=some y)∧Kept (fun k=>k=w.heap.size) ww ((ww.setCell ⟨w.heap.size,0,none⟩ x).setCell ⟨w.heap.size,1,none⟩ y)∧Same0 w ((ww.setCell ⟨w.heap.size,0,none⟩ x).setCell ⟨w.heap.size,1,none⟩ y)):=fun ww x y hk=>by
  have h1:=hk.at0 hbx
  have h2:=setAt (setAt h1 0 x) 1 y
  have k1:=kept_at ww w.heap.size 0 x
  have k2:=kept_at (ww.setCell ⟨w.heap.size,0,none⟩ x) w.heap.size 1 y
  have k3:=Kept.trans k1 k2 (fun _ _ e=>e)
  exact ⟨⟨cellAt h2 0,cellAt h2 1⟩,k3,Kept.trans (KW.trans' hk) k3 (fun i hi e=>by omega)⟩
 obtain ⟨⟨r0,r1⟩,f0,f1⟩:=RC.out W1 (Kept.refl _ _)
 by_cases hx:0≤x
 ·have HP:Hid (partP L t x=(x,[])):=by show _=_;rw [partP,if_pos hx]
  have PH:Hid _:=PUT.out W1 (.int .i64 x) (.slice none 0 0) (Kept.refl _ _)
  clear h ht
  go_enter Tryz.func179,Tryz.ntmps179
  go_upto_region 1 with fail
  rw [← hW1]
  clear hW1
  go_wp2_with fail
  obtain ⟨⟨g0,g1⟩,kk,ks⟩:=PH.out
  refine bodyPost_ret (v:=.agg #[.int .i64 x,.slice none 0 0]) (by simp [results,Tryz.results179,go_sem,g0,g1]) rfl ?_
  rw [HP.out]
  exact ⟨none,0,rfl,World.ownsRow_nil _ _ _ _,ks⟩
 ·have HP:Hid (partP L t x=(-1,pathA L t (idxI t x))):=by show _=_;rw [partP,if_neg hx]
  have CI:=indexI_any (sc:=cap) (ht.same KW) hm x
  have CP:Calls Tryz.prog 194 #[.pointer (some ⟨b,0,none⟩),.slice ao t.length cap,.int .i64 (idxI t x)] W1 fun e w' => ∃ so sc er,e=.returned (.tuple #[.slice so (pathA L t (idxI t x)).length sc,.int .i64 er])∧Hid (Row W1.heap.size w' (.slice so (pathA L t (idxI t x)).length sc) (pathA L t (idxI t x)))∧Same0 W1 w' := by
   refine (tpath_any (h.same KW) (ht.same KW) hmx hcap (idxI t x)).mono ?_
   rintro e w' ⟨v,rfl,hr,hk⟩
   obtain ⟨so,sc,rfl,_⟩:=hr.ints
   exact ⟨so,sc,_,rfl,hr,hk⟩
  generalize idxI t x=z at *
  generalize pathA L t z=q at *
  clear h ht
  go_enter Tryz.func179,Tryz.ntmps179
  go_upto_region 1 with fail
  rw [← hW1]
  clear hW1
  go_wp2_with (first
   | (go_at_call 231;refine CI.mono ?_;rintro e w2 ⟨rfl,rfl⟩)
   | (go_at_call 194;refine CP.mono ?_;rintro e w3 ⟨so,sc,er,rfl,hr,k3⟩;obtain ⟨⟨r2,r3⟩,f2,f3⟩:=RC.out w3 k3))
  obtain ⟨⟨g0,g1⟩,kk,ks⟩:=PUT.out w3 (.int .i64 (-1)) (.slice so q.length sc) k3
  refine bodyPost_ret (v:=.agg #[.int .i64 (-1),.slice so q.length sc]) (by simp [results,Tryz.results179,go_sem,g0,g1]) rfl ?_
  rw [HP.out]
  have hr2:=kk.row hr.out (fun k e q=>by
   rcases hr.out.2 with ⟨e1,_⟩ | ⟨g,_,_,e1,e2,_⟩
   ·rw [e1] at e;simp [Value.ownBlock] at e
   ·rw [e1] at e;simp only [Value.ownBlock,Option.some.injEq] at e;omega)
  exact ⟨so,sc,rfl,row_mono hr2 (by omega),ks⟩
end Go.Proofs.YtflcpepjmonlpaaGreatDoor
