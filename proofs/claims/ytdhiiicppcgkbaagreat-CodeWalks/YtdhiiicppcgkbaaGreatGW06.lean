import Derived.Test.YtdhiiicppcgkbaaGreatGW04
import Derived.Test.YtdhiiicppcgkbaaGreatGW05
import Derived.Laws.AppendOwnNone
import Derived.Deep.WholeRow
import Derived.Test.YtdhiiicppcgkbaaGreatGW03
import Derived.Test.YtdhiiicppcgkbaaGreatGW02
import Derived.Laws.Tables
namespace Go.Proofs.YtdhiiicppcgkbaaGreat
set_option linter.unusedVariables false
open Go.RowKit
attribute [local go_sem ↓] Go.wp_at_zero Go.wp_at_succ
set_option maxHeartbeats 1000000 in
theorem rIsV_any (x:Int) (w:World):Calls Tryz.prog 190 #[.int .i64 x] w fun e w' => e=.returned (.bool (isV x))∧w' = w:=by
 by_cases h1:x<0
 ·by_cases h2 : -99≤x
  ·have H:Hid (isV x=true):=by show _=_;simp [isV];omega
   go_enter Tryz.func190,Tryz.ntmps190
   go_wp2
   go_ret
   exact ⟨by rw [H.out];rfl,rfl⟩
  ·have H:Hid (isV x=false):=by show _=_;simp [isV];omega
   go_enter Tryz.func190,Tryz.ntmps190
   go_wp2
   go_ret
   exact ⟨by rw [H.out];rfl,rfl⟩
 ·have H:Hid (isV x=false):=by show _=_;simp [isV];omega
  go_enter Tryz.func190,Tryz.ntmps190
  go_wp2
  go_ret
  exact ⟨by rw [H.out];rfl,rfl⟩
def inB (l:List Int) (n:Int):Bool:=decide (n∈l)
set_option maxHeartbeats 1000000 in
theorem rIn_any {w:World} {ao:Option Addr} {cap:Nat} {l:List Int} (hl:IntsAt w ao l) (n:Int) (hm:l.length≤maxLen):Calls Tryz.prog 183 #[.slice ao l.length cap,.int .i64 n] w fun e w' => e=.returned (.bool (inB l n))∧w' = w:=by
 unfold maxLen at hm
 go_enter Tryz.func183,Tryz.ntmps183
 go_wp2
 go_loop [5] (fun i=>∃ k:Nat,k≤l.length∧i=.int .i64 (k:Int)∧Hid (¬ n∈l.take k)) (fun i=>l.length-(intOf i).toNat)
 case atStart=>exact ⟨0,Nat.zero_le _,rfl,by simp [Hid]⟩
 case round=>
  obtain ⟨k,hk,rfl,hn⟩:=hrel
  by_cases hlt:k<l.length
  ·obtain ⟨b,off,rfl,_,hc⟩:=hl.get hlt
   have i1:(0:Int)≤(k:Int):=by omega
   have i2:(k:Int)<(l.length:Int):=by omega
   by_cases he:l[k]=n
   ·have H:Hid (inB l n=true):=by show _=_;simp [inB];rw [← he];exact List.getElem_mem hlt
    have he' : (l[k] == n)=true:=by simpa using he
    go_wp2
    go_ret
    exact ⟨by rw [H.out];rfl,rfl⟩
   ·have he' : (l[k] == n)=false:=by simpa using he
    have hn' : Hid (¬ n∈l.take (k+1)):=by
     rw [List.take_add_one,List.getElem?_eq_getElem hlt]
     intro hh
     rcases List.mem_append.1 hh with hh | hh
     ·exact hn.out hh
     ·simp at hh;exact he hh.symm
    go_wp2
    exact ⟨⟨k+1,by omega,by go_num,hn'⟩,by simp [intOf];omega⟩
  ·have H:Hid (inB l n=false):=by
    have:=hn.out
    rw [List.take_of_length_le (by omega)] at this
    show _=_;simpa [inB] using this
   go_wp2
   go_ret
   exact ⟨by rw [H.out];rfl,rfl⟩
theorem vstep_yes {o:List Int} {x:Int} (h1:isV x=true) (h2:inB o (-x)=false):vstep o x=o ++ [-x]:=by
 rw [vstep,if_pos ⟨h1,by simpa [inB] using h2⟩]
theorem vstep_in {o:List Int} {x:Int} (h2:inB o (-x)=true):vstep o x=o:=by
 rw [vstep,if_neg (by simp [inB] at h2;simp [h2])]
theorem vstep_no {o:List Int} {x:Int} (h1:isV x=false):vstep o x=o:=by
 rw [vstep,if_neg (by simp [h1])]
set_option maxHeartbeats 2000000 in
theorem rvars_any {w:World} {ao:Option Addr} {cap:Nat} {t:List Int} (ht:IntsAt w ao t) (hm:t.length * 8≤140737488351232) :
  Calls Tryz.prog 182 #[.slice ao t.length cap] w fun e w' => ∃ v,e=.returned v∧Row w.heap.size w' v (varsL t)∧Same0 w w' := by
 go_enter Tryz.func182,Tryz.ntmps182
 go_wp2
 go_loopw [3,4] (fun ov i wr=>∃ k:Nat,k≤t.length∧i=.int .i64 (k:Int)∧Row w.heap.size wr ov (varsL (t.take k))∧Same0 w wr) (fun _ i _=>t.length-(intOf i).toNat)
 case atStart=>exact ⟨0,Nat.zero_le _,rfl,World.ownsRow_nil _ _ _ _,Kept.refl _ _⟩
 case round=>
  obtain ⟨k,hk,rfl,hr,hs⟩:=hrel
  obtain ⟨oo,ocap,rfl⟩:=row_shape hr
  by_cases hlt:k<t.length
  ·obtain ⟨b,off,rfl,_,hc⟩:=(ht.same hs).get hlt
   have i1:(0:Int)≤(k:Int):=by omega
   have i2:(k:Int)<(t.length:Int):=by omega
   have E:Hid (varsL (t.take (k+1))=vstep (varsL (t.take k)) t[k]):=vs_take hlt
   have hl:=vs_len [] (t.take k)
   have hl2:(varsL (t.take k)).length≤t.length:=by simp at hl;unfold varsL;omega
   have cV:=fun w' => rIsV_any t[k] w'
   clear hl
   generalize hO:varsL (t.take k)=O at *
   generalize hX:t[k]=x at *
   cases hv:isV x with
   | false=>
    have E1:Hid (varsL (t.take (k+1))=O):=by rw [E.out];exact vstep_no hv
    rw [← E1.out] at hr
    simp only [hv] at cV
    have hlE:=congrArg List.length E1.out
    rw [← hlE]
    clear hlE
    go_wp2_with (first | (go_at_call 190;refine (cV _).mono ?_;rintro e wr ⟨rfl,rfl⟩))
    go_roundw
    case rel=>first | exact ⟨k+1,by omega,by go_num,hr,hs⟩ | ((repeat apply Exists.intro);exact ⟨⟨k+1,by omega,by go_num,hr,hs⟩,rfl⟩)
    case measure=>simp [intOf];omega
   | true=>
    simp only [hv] at cV
    have hx:=isV_iff.1 hv
    obtain ⟨oo', ocap', hvv,io,_,_⟩:=hr.ints
    simp only [Value.slice.injEq,true_and] at hvv
    obtain ⟨rfl,rfl⟩:=hvv
    have cI:=rIn_any (cap:=ocap) io (-x) (by unfold maxLen;omega)
    cases hin:inB O (-x) with
    | true=>
     have E1:Hid (varsL (t.take (k+1))=O):=by rw [E.out];exact vstep_in hin
     rw [hin] at cI
     go_wp2_with (first | (go_at_call 190;refine (cV _).mono ?_;rintro e wr ⟨rfl,rfl⟩) | (go_at_call 183;refine cI.mono ?_;rintro e wr ⟨rfl,rfl⟩))
     rw [← E1.out] at hr
     have hrE:Row w.heap.size wr (.slice oo O.length ocap) (varsL (t.take (k+1))):=by rw [E1.out] at hr ⊢;exact hr
     exact ⟨⟨k+1,by omega,by go_num,hrE,hs⟩,by simp [intOf];omega⟩
    | false=>
     have E1:Hid (varsL (t.take (k+1))=O ++ [-x]):=by rw [E.out];exact vstep_yes hv hin
     rw [hin] at cI
     have hb8:(O.length+1) * 8≤140737488355328:=by omega
     have hss:=hs.size
     go_wp2_with (first | (go_at_call 190;refine (cV _).mono ?_;rintro e wr ⟨rfl,rfl⟩) | (go_at_call 183;refine cI.mono ?_;rintro e wr ⟨rfl,rfl⟩) | (at_builtin;refine wpList_push rfl _ _ 22 rfl Tryz.underlying22 w.heap.size O _ rfl hr (-x) rfl hss hb8 ?_;intro g gcap w4 hr4 hk4 _;have hs4:=hs.onto hr hk4))
     rw [← E1.out] at hr4
     go_roundw
     case rel=>first | exact ⟨k+1,by omega,by go_num,hr4,hs4⟩ | ((repeat apply Exists.intro);exact ⟨⟨k+1,by omega,by go_num,hr4,hs4⟩,rfl⟩)
     case measure=>simp [intOf];omega
  ·obtain rfl:k=t.length:=by omega
   rw [List.take_length] at hr
   go_wp2
   go_ret
   refine ⟨_,rfl,?_,hs⟩
   simpa using hr
theorem zeros_bool:Tryz.zeroCells294=Array.replicate 100 (.bool false):=by kernel_rfl
def MetAt (w:World) (A:Nat) (o:List Int):Prop:=∃ cs,w.heap[A]? = some (.cells cs 294 (0,0))∧cs.size=100∧∀ v:Nat,1≤v→v≤99→cs[v]? = some (.bool (inB o (v:Int)))
theorem met_new (w:World):MetAt (w.alloc (.cells Tryz.zeroCells294 294)) w.heap.size []:=by
 refine ⟨_,heap_alloc_new w _,by rw [zeros_bool];simp,fun v h1 h2=>?_⟩
 rw [zeros_bool,Array.getElem?_replicate,if_pos (by omega)]
 simp [inB]
theorem MetAt.kept {w w' : World} {A:Nat} {o:List Int} {S:Nat→Prop} (h:MetAt w A o) (hk:Kept S w w') (hn:¬ S A):MetAt w' A o:=by
 obtain ⟨cs,h1,h2⟩:=h
 exact ⟨cs,hk.at h1 hn,h2⟩
theorem MetAt.cell {w:World} {A:Nat} {o:List Int} (h:MetAt w A o) {v:Nat} (h1:1≤v) (h2:v≤99):w.cell? ⟨A,v,none⟩=some (.bool (inB o (v:Int)))∧w.frozen? ⟨A,v,none⟩=false:=by
 obtain ⟨cs,q1,q2,q3⟩:=h
 exact ⟨(cellAt q1 v).trans (q3 v h1 h2),frozenAt q1 v⟩
theorem MetAt.set {w:World} {A:Nat} {o:List Int} (h:MetAt w A o) {v:Nat} (h1:1≤v) (h2:v≤99):MetAt (w.setCell ⟨A,v,none⟩ (.bool true)) A (o ++ [(v:Int)]):=by
 obtain ⟨cs,q1,q2,q3⟩:=h
 refine ⟨_,setAt q1 v _,by simpa using q2,fun u g1 g2=>?_⟩
 rw [Array.getElem?_setIfInBounds]
 by_cases e:v=u
 ·subst e;rw [if_pos rfl,if_pos (by omega)];simp [inB]
 ·rw [if_neg e,q3 u g1 g2]
  congr 2
  simp [inB];omega
set_option maxHeartbeats 4000000 in
theorem tvars_any {w:World} {ao:Option Addr} {cap:Nat} {t:List Int} (ht:IntsAt w ao t) (hm:t.length * 8≤140737488351232) :
  Calls Tryz.prog 177 #[.slice ao t.length cap] w fun e w' => ∃ v,e=.returned v∧Row w.heap.size w' v (varsL t)∧Same0 w w' := by
 have M0:=met_new w
 have K0:Same0 w (w.alloc (.cells Tryz.zeroCells294 294)):=(Kept.refl _ w).alloc _
 go_enter Tryz.func177,Tryz.ntmps177
 go_wp2
 go_loopw [4,9] (fun ov i wr=>∃ k:Nat,k≤t.length∧i=.int .i64 (k:Int)∧Row w.heap.size wr ov (varsL (t.take k))∧MetAt wr w.heap.size (varsL (t.take k))∧ov.ownBlock≠some w.heap.size∧Same0 w wr) (fun _ i _=>t.length-(intOf i).toNat)
 case atStart=>exact ⟨0,Nat.zero_le _,rfl,World.ownsRow_nil _ _ _ _,M0,by simp [Value.ownBlock],K0⟩
 case round=>
  clear M0 K0
  obtain ⟨k,hk,rfl,hr,hM,hne,hs⟩:=hrel
  obtain ⟨oo,ocap,rfl⟩:=row_shape hr
  by_cases hlt:k<t.length
  ·obtain ⟨b,off,rfl,_,hc⟩:=(ht.same hs).get hlt
   have i1:(0:Int)≤(k:Int):=by omega
   have i2:(k:Int)<(t.length:Int):=by omega
   have E:Hid (varsL (t.take (k+1))=vstep (varsL (t.take k)) t[k]):=vs_take hlt
   have hl:=vs_len [] (t.take k)
   have hl2:(varsL (t.take k)).length≤t.length:=by simp at hl;unfold varsL;omega
   have cV:=fun w' => isVariable_any t[k] w'
   clear hl
   generalize hO:varsL (t.take k)=O at *
   generalize hX:t[k]=x at *
   cases hv:isV x with
   | false=>
    have E1:Hid (varsL (t.take (k+1))=O):=by rw [E.out];exact vstep_no hv
    simp only [hv] at cV
    go_wp2_with (first | (go_at_call 138;refine (cV _).mono ?_;rintro e wr ⟨rfl,rfl⟩))
    have hrE:Row w.heap.size wr (.slice oo O.length ocap) (varsL (t.take (k+1))):=by rw [E1.out];exact hr
    have hME:MetAt wr w.heap.size (varsL (t.take (k+1))):=by rw [E1.out];exact hM
    exact ⟨⟨k+1,by omega,by go_num,hrE,hME,hne,hs⟩,by simp [intOf];omega⟩
   | true=>
    simp only [hv] at cV
    have hx:=isV_iff.1 hv
    obtain ⟨v,rfl⟩:∃ v:Nat,x = -(v:Int):=⟨(-x).toNat,by omega⟩
    have hv1:1≤v:=by omega
    have hv2:v≤99:=by omega
    obtain ⟨q1,q2⟩:=hM.cell hv1 hv2
    have j1:(0:Int)≤(v:Int):=by omega
    have j2:(v:Int)<100:=by omega
    cases hin:inB O (v:Int) with
    | true=>
     have E1:Hid (varsL (t.take (k+1))=O):=by rw [E.out];exact vstep_in (by simpa using hin)
     rw [hin] at q1
     go_wp2_with (first | (go_at_call 138;refine (cV _).mono ?_;rintro e wr ⟨rfl,rfl⟩))
     have hrE:Row w.heap.size wr (.slice oo O.length ocap) (varsL (t.take (k+1))):=by rw [E1.out];exact hr
     have hME:MetAt wr w.heap.size (varsL (t.take (k+1))):=by rw [E1.out];exact hM
     exact ⟨⟨k+1,by omega,by go_num,hrE,hME,hne,hs⟩,by simp [intOf];omega⟩
    | false=>
     have E1:Hid (varsL (t.take (k+1))=O ++ [(v:Int)]):=by show _=_;rw [E.out,vstep_yes hv (by simpa using hin)];simp
     rw [hin] at q1
     have hb8:(O.length+1) * 8≤140737488355328:=by omega
     have hMs:=hM.set hv1 hv2
     have ks:Kept (fun k=>k=w.heap.size) wr (wr.setCell ⟨w.heap.size,v,none⟩ (.bool true)):=Kept.setCell (S:=fun k=>k=w.heap.size) (p:=⟨w.heap.size,v,none⟩) (Kept.refl _ _) (fun _=>rfl) _
     have hrs:Row w.heap.size (wr.setCell ⟨w.heap.size,v,none⟩ (.bool true)) (.slice oo O.length ocap) O:=ks.row hr (fun k e e' => hne (by rw [e,e']))
     have hss:Same0 w (wr.setCell ⟨w.heap.size,v,none⟩ (.bool true)):=hs.own (Nat.le_refl _) _
     have hsz:=hss.size
     have hAl:w.heap.size<wr.heap.size:=by obtain ⟨cs,q,_⟩:=hM;exact lt_of_at q
     have E3:Hid ((wr.setCell ⟨w.heap.size,v,none⟩ (.bool true)).heap.size=wr.heap.size):=by show _=_;simp [World.setCell]
     clear hM hr
     go_wp2_with (first | (go_at_call 138;refine (cV _).mono ?_;rintro e wr ⟨rfl,rfl⟩) | (at_builtin;refine wpList_push rfl _ _ 22 rfl Tryz.underlying22 w.heap.size O (.slice oo O.length ocap) rfl hrs (v:Int) (by rw [E3.out];rfl) hsz hb8 ?_;intro g gcap w4 hr4 hk4 hat4;have hs4:=hss.onto hrs hk4))
     have hM4:MetAt w4 w.heap.size (O ++ [(v:Int)]):=hMs.kept hk4 hne
     have hne4:Value.ownBlock (.slice (some ⟨g,0,none⟩) (O.length+1) gcap)≠some w.heap.size:=by
      simp only [Value.ownBlock,ne_eq,Option.some.injEq]
      rcases hat4 with e | e
      ·intro e'; exact hne (by rw [e,e'])
      ·have e3:=E3.out
       omega
     rw [← E1.out] at hr4 hM4
     go_roundw
     case rel=>first | exact ⟨k+1,by omega,by go_num,hr4,hM4,hne4,hs4⟩ | ((repeat apply Exists.intro);exact ⟨⟨k+1,by omega,by go_num,hr4,hM4,hne4,hs4⟩,rfl⟩)
     case measure=>simp [intOf];omega
  ·obtain rfl:k=t.length:=by omega
   rw [List.take_length] at hr
   go_wp2
   go_ret
   refine ⟨_,rfl,?_,hs⟩
   simpa using hr
def Lists (w:World) (lo:Option Addr) (ls:List (List Int)):Prop:=
 ls=[]∨∃ b off,lo=some ⟨b,off,none⟩∧b<w.heap.size∧∀ i (h:i<ls.length),∃ ao cap,w.cell? ⟨b,off+i,none⟩=some (.slice ao ls[i].length cap)∧IntsAt w ao ls[i]∧(ao=none→ls[i].length=0∧cap=0)
structure PlAt (s:Nat) (wr:World) (g n:Nat) (cs:List Value) (done:List (List Int)):Prop where
 row:wr.ownsRow s 64 1 (.slice (some ⟨g,0,none⟩) n n) n cs
 len:done.length≤n
 each:∀ j (h:j<done.length),∃ v,cs[j]? = some v∧Row s wr v done[j]∧v.ownBlock≠some g
 apart:∀ i j vi vj,i<done.length→j<done.length→i≠j→cs[i]? = some vi→cs[j]? = some vj→∀ k,vi.ownBlock=some k→vj.ownBlock≠some k
def Over (base g n:Nat) (w wr:World):Prop:=(∃ ys,wr.ownsRow base 3 1 (.slice (some ⟨g,0,none⟩) n n) n ys)∧Kept (fun k=>k=g) w wr
theorem wpList_more {w0:World} {ops:Array Oper} {rest:List Oper} {o:Oper} {a:Act} {Q:Exit→Act→World→Prop} (hgd:o.guard=none) (s x:Operand) (t:TypeId)
  (ho:o.op=.call { callee:=.builtin .append,args:=#[s,x],argTypes:=#[t,t] }) (ht:Tryz.prog.underlying t=some (.slice 3))
  (base:Nat) (xs:List Int) (v:Value) (hs:a.eval s=v) (hr:Row base w0 v xs) (ys:List Int) (ad:Addr) (m c:Nat) (hx:a.eval x=.slice (some ad) m c) (hm:m=ys.length) (hy:IntsAt w0 (some ad) ys) (hb:base≤w0.heap.size) (hsz:(xs.length+ys.length) * 8≤140737488355328)
  (h:∀ v' w', Row base w' v' (xs++ys)→Kept (fun k=>v.ownBlock=some k) w0 w' → wpList Tryz.prog ops Q rest (a.put o.dst v') w') :
  wpList Tryz.prog ops Q (o :: rest) a w0:=by
 subst hm
 obtain ⟨i,hi,hz0,hz1,hz2⟩:=info_parts info_intT
 refine wpList_append_own _ hgd s x t ho base 3 i (.int .i64 0) 1 8 ht hi hz0 hz1 hz2 rfl (by decide) v xs.length (iv xs) hs hr ad ys.length c (iv ys) hx (by rw [iv_length];omega) (fun j u hj=>?_) (iv_oneCell ys) (by unfold maxLen;omega) hsz hb ?_
 ·obtain ⟨ad', e,hc⟩:=hy.src (by have:=(List.getElem?_eq_some_iff.1 hj).1;omega)
  cases e
  exact hc j u hj
 ·intro v' w' hown hgrow _
  refine h v' w' ?_ (Kept.grown (Kept.refl _ w0) hgrow (fun _ e _=>e))
  unfold Row;rw [iv_append,List.length_append];exact hown
theorem row_empty (w:World) (base:Nat) (hb:base≤w.heap.size) {o:Obj} (ho:o=.cells #[] 3 (0,0)):Row base (w.alloc o) (.slice (some ⟨w.heap.size,0,none⟩) 0 0) []:=by
 subst ho
 exact ⟨rfl,.inr ⟨w.heap.size,0, #[],rfl,hb,heap_alloc_new w _,Nat.le_refl _,by unfold maxLen;omega,rfl,rfl⟩⟩
end Go.Proofs.YtdhiiicppcgkbaaGreat
namespace Go.Proofs.YtdhiiicppcgkbaaGreat
set_option maxRecDepth 100000
set_option linter.unusedVariables false
open Go.RowKit
attribute [local go_sem ↓] Go.wp_at_zero Go.wp_at_succ
def TabV (N:Nat) (w:World) (cs:Array Value) (σ:Tb):Prop:=cs.size=100∧∀ v,v<100→∃ ao cap,cs[v]? = some (.slice ao (σ v).length cap)∧IntsAt w ao (σ v)∧(σ v).length≤cap∧(σ v=[]→ao=none∧cap=0)∧∀ a,ao=some a→a.block<N
def TabAt (N:Nat) (w:World) (A:Nat) (σ:Tb):Prop:=∃ cs,w.heap[A]? = some (.cells cs 174 (0,0))∧TabV N w cs σ
theorem eqnil (w:World) (a:Option Addr) (n c n' c' : Nat):(binOp .eql 64 (.slice a n c) (.slice none n' c')).run Tryz.prog w=.ok (.bool a.isNone) w:=Lib.run_eql_slice_nil w _ _ a n c n' c' Tryz.underlying64
def Bnd (σ:Tb):Prop:=∀ v,(σ v).length≤2000
set_option maxHeartbeats 2000000 in
theorem clone_term {w:World} {ao:Option Addr} {cap:Nat} {xs:List Int} (hx:IntsAt w ao xs) (hn:0<xs.length) (hsz:xs.length≤2000) :
  Calls Tryz.prog 62 #[.slice ao xs.length cap] w fun e w' => ∃ v,e=.returned v∧Row w.heap.size w' v xs∧Same0 w w' := by
 obtain ⟨xb,off,rfl,hxb,hc⟩:=hx.get hn
 have k0:Same0 w (w.alloc (.cells #[] 3)):=(Kept.refl _ w).alloc _
 have r0:Row w.heap.size (w.alloc (.cells #[] 3)) (.slice (some ⟨w.heap.size,0,none⟩) 0 0) []:=row_empty w _ (Nat.le_refl _) rfl
 have cI:=hx.same k0
 have z0:=k0.size
 have hnil:=eqnil
 go_enter Tryz.func62,Tryz.ntmps62
 go_wp2_with (first | (at_builtin;refine wpList_more rfl _ _ 64 rfl Tryz.underlying64 w.heap.size [] _ rfl r0 xs _ _ _ rfl rfl cI z0 (by simp;omega) ?_;intro v' w4 hr4 hk4))
 go_ret
 exact ⟨_,rfl,by simpa using hr4,k0.onto r0 hk4⟩
structure PassAt (N:Nat) (w:World) (aB tB sB A b:Nat) (L:List Sym) (ao:Option Addr) (cap:Nat) (u:List Int) (k:Nat) (σ:Tb):Prop where
 a0:w.heap[aB]? = some (.cells #[.int .i64 (k:Int)] 3 (0,0))
 t0:w.heap[tB]? = some (.cells #[.slice ao u.length cap] 64 (0,0))
 s0:w.heap[sB]? = some (.cells #[.pointer (some ⟨b,0,none⟩)] 38 (0,0))
 tab:TabAt N w A σ
 ints:IntsAt w ao u
 ub:∀ a,ao=some a→a.block<N
 uc:u.length≤cap
 um:u.length≤2000
 sg:Sg N w b L
 ne:N≤aB∧N≤tB∧N≤sB∧N≤A∧aB≠tB∧aB≠sB∧aB≠A∧tB≠A∧sB≠A
theorem PassAt.cells {N:Nat} {w:World} {aB tB sB A b:Nat} {L:List Sym} {ao:Option Addr} {cap:Nat} {u:List Int} {k:Nat} {σ:Tb} (h:PassAt N w aB tB sB A b L ao cap u k σ) :
  w.cell? ⟨aB,0,none⟩=some (.int .i64 (k:Int))∧w.frozen? ⟨aB,0,none⟩=false∧w.cell? ⟨tB,0,none⟩=some (.slice ao u.length cap)∧w.cell? ⟨sB,0,none⟩=some (.pointer (some ⟨b,0,none⟩)):=
 ⟨cellAt h.a0 0,frozenAt h.a0 0,cellAt h.t0 0,cellAt h.s0 0⟩
structure WalkAt (Z:Array Value) (w wr:World) (b:Nat) (L:List Sym) (po:Option Addr) (p:List Int) (ao:Option Addr) (cap:Nat) (u:List Int) (i k:Nat) (σ:Tb):Prop where
 pass:PassAt w.heap.size wr (w.heap.size+1+1+1+1) (w.heap.size+1) w.heap.size (w.heap.size+1+1+1) b L ao cap u k σ
 res:wr.heap[w.heap.size+1+1]? = some (.cells Z 174 (0,0))
 pat:IntsAt wr po p
 mw:Proofs.YtdhiiicppcgkbaaGreat.mw L p u noT=Proofs.YtdhiiicppcgkbaaGreat.mw L (p.drop i) (u.drop k) σ
 even:Even L (p.drop i) (u.drop k)
 kle:k≤u.length
 bnd:Bnd σ
 kept:Kept (From w.heap.size) w wr
def bcells (l:List (Int × Value)):List Value:=l.flatMap (fun p=>[.int .i64 p.1,p.2])
structure BOwn (base:Nat) (w:World) (v:Value) (l:List (Int × Value)) (bs:List Bd):Prop where
 row:w.ownsRow base 217 2 v l.length (bcells l)
 len:l.length=bs.length
 each:∀ i (h:i<l.length) (h' : i<bs.length),l[i].1=bs[i].1∧Row base w l[i].2 bs[i].2∧∀ k,l[i].2.ownBlock=some k→v.ownBlock≠some k
 apart:∀ i j (hi:i<l.length) (hj:j<l.length),i≠j→∀ k,l[i].2.ownBlock=some k→l[j].2.ownBlock≠some k
def tabF (L:List Sym):List Bd→Tb→Except Int Tb
 | [],σ=>.ok σ
 | b :: r,σ=>if b.1<1∨99<b.1∨σ b.1.toNat≠[] then .error 50 else if checkE L b.2≠0 then .error (checkE L b.2) else tabF L r (updT σ b.1.toNat b.2)
structure TabW (Z:Array Value) (w wr:World) (L:List Sym) (bs:List Bd) (i:Nat) (σ:Tb):Prop where
 tab:TabAt w.heap.size wr (w.heap.size+1) σ
 res:wr.heap[w.heap.size]? = some (.cells Z 174 (0,0))
 eq:tabF L bs noT=tabF L (bs.drop i) σ
 bnd:Bnd σ
 kept:Same0 w wr
def matchE (L:List Sym) (p t:List Int) (a:Int):Int:=if checkE L p≠0 then checkE L p else placeE L t a
def matchS (L:List Sym) (p t:List Int) (a:Int):Option Tb:=if matchE L p t a=0 then mw L p (subN L t a.toNat) noT else none
end Go.Proofs.YtdhiiicppcgkbaaGreat
namespace Go.Proofs.YtdhiiicppcgkbaaGreat
set_option linter.unusedVariables false
def vn (n:Int):Nat:=(-n).toNat
end Go.Proofs.YtdhiiicppcgkbaaGreat
namespace Go.Proofs.YtdhiiicppcgkbaaGreat
set_option maxRecDepth 100000
set_option linter.unusedVariables false
open Go.RowKit
attribute [local go_sem ↓] Go.wp_at_zero Go.wp_at_succ
end Go.Proofs.YtdhiiicppcgkbaaGreat
namespace Go.Proofs.YtdhiiicppcgkbaaGreat
set_option linter.unusedVariables false
structure Ren (f f' : Int→Int) (n:Int):Prop where
 back:f' (f n)=n
 neg:n<0→f n<0
 pos:0≤n→f n=n
theorem ren_mem {f f' : Int→Int} {o:List Int} {x:Int} (ho:∀ n∈o,Ren f f' n) (hx:Ren f f' x):f x∈o.map f ↔ x∈o:=by
 rw [List.mem_map]
 constructor
 ·rintro ⟨y,hy,e⟩
  have:=congrArg f' e
  rw [(ho y hy).back,hx.back] at this
  rw [← this];exact hy
 ·intro h;exact ⟨x,h,rfl⟩
theorem ren_idx {f f' : Int→Int}:∀ {o:List Int} {x:Int},(∀ n∈o,Ren f f' n)→Ren f f' x→(o.map f).idxOf (f x)=o.idxOf x
 | [],x,_,_=>rfl
 | y :: r,x,ho,hx=>by
  rw [List.map_cons,List.idxOf_cons,List.idxOf_cons,ren_idx (fun n hn=>ho n (by simp [hn])) hx]
  by_cases e:y=x
  ·subst e;simp
  ·have:¬ f y=f x:=fun g=>e (by have:=congrArg f' g;rwa [(ho y (by simp)).back,hx.back] at this)
   have h1:(y == x)=false:=by simpa using e
   have h2:(f y == f x)=false:=by simpa using this
   rw [h1,h2]
theorem wrF_ren {f f' : Int→Int} (u:List Int):∀ (o:List Int),(∀ n∈o,Ren f f' n)→(∀ n∈u,Ren f f' n)→wrF (o.map f) (u.map f)=wrF o u:=by
 induction u with
 | nil=>intro o _ _;rfl
 | cons x r ih=>
  intro o ho hu
  have hx:=hu x (by simp)
  have ev:vzs (o.map f) (f x)=(vzs o x).map f:=by
   unfold vzs
   by_cases h:x<0∧¬ x∈o
   ·rw [if_pos h,if_pos ⟨hx.neg h.1,fun g=>h.2 ((ren_mem ho hx).1 g)⟩];simp
   ·rw [if_neg h,if_neg (fun g=>h ⟨by
     by_cases q:x<0
     ·exact q
     ·have:=hx.pos (by omega);omega,fun q=>g.2 ((ren_mem ho hx).2 q)⟩)]
  have hv:∀ n∈vzs o x,Ren f f' n:=by
   intro n hn
   unfold vzs at hn
   split at hn
   ·rcases List.mem_append.1 hn with q | q
    ·exact ho n q
    ·simp only [List.mem_cons,List.not_mem_nil,or_false] at q;subst q;exact hx
   ·exact ho n hn
  rw [List.map_cons,wrF,wrF,ev,ih _ hv (fun n hn=>hu n (by simp [hn]))]
  congr 1
  unfold rn
  by_cases h:x<0
  ·rw [if_pos h,if_pos (hx.neg h),ren_idx hv hx]
  ·rw [if_neg h,if_neg (by rw [hx.pos (by omega)];exact h),hx.pos (by omega)]
theorem sub_one {L:List Sym} {g:Int→List Int}:∀ (u:List Int),(∀ n∈u,n<0→IsT L (g n))→(subV g u).length=u.length→subV g u=u.map (fun n=>if n<0 then (g n).headD 0 else n)
 | [],_,_=>rfl
 | n :: r,h,e=>by
  have h1:=subV_len r (fun m hm=>h m (by simp [hm]))
  rw [subV_cons,List.length_append,List.length_cons] at e
  rw [subV_cons,List.map_cons]
  by_cases hn:n<0
  ·have h2:=isT_pos (h n (by simp) hn)
   rw [if_pos hn] at e ⊢
   rw [if_pos hn]
   have h3:(g n).length=1:=by omega
   obtain ⟨y,hy⟩:=List.length_eq_one_iff.1 h3
   rw [sub_one r (fun m hm=>h m (by simp [hm])) (by omega),hy];rfl
  ·rw [if_neg hn] at e ⊢
   rw [if_neg hn]
   simp only [List.length_cons,List.length_nil] at e
   rw [sub_one r (fun m hm=>h m (by simp [hm])) (by omega)];rfl
theorem both_ways {L:List Sym} {u v:List Int} {g g' : Int→List Int} (h1:∀ n∈u,n<0→IsT L (g n)) (h2:∀ n∈v,n<0→IsT L (g' n)) (e1:v=subV g u) (e2:u=subV g' v):wrF [] v=wrF [] u:=by
 have l1:=subV_len u h1
 have l2:=subV_len v h2
 rw [← e1] at l1
 rw [← e2] at l2
 have m1:=sub_one u h1 (by rw [← e1];omega)
 have m2:=sub_one v h2 (by rw [← e2];omega)
 rw [← e1] at m1
 rw [← e2] at m2
 obtain ⟨f,hf⟩:∃ f:Int→Int,f=fun n=>if n<0 then (g n).headD 0 else n:=⟨_,rfl⟩
 obtain ⟨f', hf'⟩:∃ f:Int→Int,f=fun n=>if n<0 then (g' n).headD 0 else n:=⟨_,rfl⟩
 rw [← hf] at m1
 rw [← hf'] at m2
 have hb:∀ n∈u,f' (f n)=n:=by
  have:u=u.map (fun n=>f' (f n)):=by rw [m1,List.map_map] at m2;exact m2
  intro n hn
  obtain ⟨i,hi,rfl⟩:=List.getElem_of_mem hn
  have h3:=congrArg (fun l=>l[i]?) this
  simp only [List.getElem?_map,List.getElem?_eq_getElem hi,Option.map_some,Option.some.injEq] at h3
  exact h3.symm
 have hpos:∀ n,0≤n→f n=n:=fun n hn=>by rw [hf];simp only;rw [if_neg (by omega)]
 have hpos' : ∀ n,0≤n→f' n=n:=fun n hn=>by rw [hf'];simp only;rw [if_neg (by omega)]
 have hr:∀ n∈u,Ren f f' n:=fun n hn=>⟨hb n hn,fun hn0=>by
  by_cases q:f n<0
  ·exact q
  ·have:=hb n hn;rw [hpos' _ (by omega)] at this;omega,hpos n⟩
 have:=wrF_ren u [] (by simp) hr
 rw [m1];exact this
theorem subV_flat {α:Type} (f:Int→List Int) (g:α→List Int) (l:List α):subV f (l.flatMap g)=l.flatMap (fun k=>subV f (g k)):=by
 induction l with
 | nil=>rfl
 | cons x r ih=>rw [List.flatMap_cons,List.flatMap_cons,subV_append,ih]
theorem subV_sh (f:Int→List Int) {ap:Int} (h:0≤ap) (b:List Int):subV f (b.map (shF ap))=subV (fun n=>f (n-ap)) b:=by
 induction b with
 | nil=>rfl
 | cons n r ih=>
  rw [List.map_cons,subV_cons,subV_cons,ih]
  congr 1
  unfold shF
  by_cases hn:n<0
  ·rw [if_pos hn,if_pos (by omega),if_pos hn]
  ·rw [if_neg hn,if_neg hn,if_neg hn]
def ComU (L:List Sym) (a b:List Int) (ap:Int) (u:List Int):Prop:=∃ ld k,solF L (jl a b ap) a.length=some (ld,k)∧Closed L (jl a b ap) a.length ld∧Val L (jl a b ap) ld 0 u∧k=min (u.length:Int) 2001
theorem ComU.uniq {L:List Sym} {a b:List Int} {ap:Int} {u v:List Int} (h:ComU L a b ap u) (k:ComU L a b ap v):u=v:=by
 obtain ⟨ld,k1,h1,_,h2,_⟩:=h
 obtain ⟨ld', k2,g1,_,g2,_⟩:=k
 rw [h1] at g1
 simp only [Option.some.injEq,Prod.mk.injEq] at g1
 obtain ⟨rfl,rfl⟩:=g1
 exact h2.uniq g2
theorem com_u {L:List Sym} {a b:List Int} {ap:Nat} (hap:ap≤99) (ha:checkE L a=0) (hb:checkE L b=0):solF L (jl a b ap) a.length=none∨∃ u,ComU L a b ap u:=by
 obtain ⟨x1,x2,x3⟩:=checkE_zero.1 ha
 obtain ⟨y1,y2,y3⟩:=checkE_zero.1 hb
 have hT:=trs_jl (apart:=(ap:Int)) (by omega) x3 y3
 have hv:∀ x∈jl a b ap, -198≤x:=by
  intro x hx
  unfold jl at hx
  rcases List.mem_append.1 hx with e | e
  ·have:=(badE_zero.1 x2 x e).2;omega
  ·obtain ⟨y,hy,rfl⟩:=List.mem_map.1 e
   have:=(badE_zero.1 y2 y hy).2
   unfold shF;split <;> omega
 have p1:=isT_pos x3
 have p2:=isT_pos y3
 have hl:(jl a b ap).length=a.length+b.length:=by simp [jl]
 cases hs:solF L (jl a b ap) a.length with
 | none=>exact .inl rfl
 | some v=>
  obtain ⟨ld,k⟩:=v
  right
  obtain ⟨res,hU,hR1,hR2⟩:=(sol_any hT hv (m:=a.length) (by omega) (by omega)).uni
  cases res with
  | none=>rw [hR1 rfl] at hs;cases hs
  | some ld' =>
   obtain ⟨g1,k', sz', g2,g3,g4⟩:=hR2 ld' rfl
   by_cases e:k' = -1
   ·rw [g3 e] at hs;cases hs
   ·obtain ⟨f1,u,f2,f3⟩:=g4 e
    rw [f1] at hs
    simp only [Option.some.injEq,Prod.mk.injEq] at hs
    obtain ⟨rfl,rfl⟩:=hs
    exact ⟨u,ld', k', f1,closed_of hv (by omega) (by omega) hU,f2,f3⟩
theorem jl_low {L:List Sym} {a b:List Int} (ha:checkE L a=0) (hb:checkE L b=0) {ap:Nat} (hap:ap≤99):∀ x∈jl a b ap, -198≤x:=by
 intro x hx
 unfold jl at hx
 rcases List.mem_append.1 hx with e | e
 ·have:=(badE_zero.1 (checkE_zero.1 ha).2.1 x e).2;omega
 ·obtain ⟨y,hy,rfl⟩:=List.mem_map.1 e
  have:=(badE_zero.1 (checkE_zero.1 hb).2.1 y hy).2
  unfold shF;split <;> omega
theorem most_com {L:List Sym} {a b:List Int} (ha:checkE L a=0) (hb:checkE L b=0) {fa fb:Int→List Int} (ta:∀ n∈a,n<0→IsT L (fa n)) (tb:∀ n∈b,n<0→IsT L (fb n)) {T:List Int} (e1:subV fa a=T) (e2:subV fb b=T) :
  ∃ u g,ComU L a b 99 u∧T=subV g u∧(∀ n∈u,n<0→IsT L (g n)):=by
 obtain ⟨x1,x2,x3⟩:=checkE_zero.1 ha
 obtain ⟨y1,y2,y3⟩:=checkE_zero.1 hb
 have hT:=trs_jl (apart:=(99:Int)) (by omega) x3 y3
 have hv:∀ x∈jl a b 99, -198≤x:=jl_low ha hb (ap:=99) (by omega)
 have p1:=isT_pos x3
 have p2:=isT_pos y3
 have hl:(jl a b 99).length=a.length+b.length:=by simp [jl]
 obtain ⟨vv,hvv⟩:∃ vv:Int→List Int,vv=fun n=>if -99≤n then (if n∈a then fa n else [n]) else (if n+99∈b then fb (n+99) else [n]):=⟨_,rfl⟩
 have vT:∀ n,n<0→IsT L (vv n):=by
  intro n hn
  rw [hvv]
  simp only
  by_cases h : -99≤n
  ·rw [if_pos h]
   by_cases q:n∈a
   ·rw [if_pos q];exact ta n q hn
   ·rw [if_neg q];exact isT_var L hn
  ·rw [if_neg h]
   by_cases q:n+99∈b
   ·rw [if_pos q];exact tb _ q (by omega)
   ·rw [if_neg q];exact isT_var L hn
 have va:subV vv a=T:=by
  rw [← e1]
  refine subV_congr a (fun n hn h0=>?_)
  rw [hvv]
  simp only
  rw [if_pos ((badE_zero.1 x2 n hn).2),if_pos hn]
 have vb:subV vv (b.map (shF 99))=T:=by
  rw [subV_sh vv (by omega),← e2]
  refine subV_congr b (fun n hn h0=>?_)
  rw [hvv]
  simp only
  rw [if_neg (by omega),if_pos (by rw [Int.sub_add_cancel];exact hn),Int.sub_add_cancel]
 obtain ⟨val,hval⟩:∃ val:Int→List Int,val=fun x=>if x<0 then vv x else subV vv (cutJ L (jl a b 99) x.toNat):=⟨_,rfl⟩
 have vn:∀ n,n<0→val n=vv n:=fun n hn=>by rw [hval];simp only;rw [if_pos hn]
 have vp:∀ p:Nat,val p=subV vv (cutJ L (jl a b 99) p):=fun p=>by rw [hval];simp only;rw [if_neg (by omega),Int.toNat_natCast]
 have hg:Good L (jl a b 99) val:=by
  refine ⟨fun p hp hs=>?_,fun p hp hs=>?_,fun x hx=>?_⟩
  ·rw [vp,cut_sym hT hp,subV_cons,if_neg (by omega),subV_flat]
   simp only [vp];rfl
  ·rw [vp,cut_sym hT hp,subV_cons,if_pos hs,vn _ hs]
   have:kidsL L (jl a b 99) p=[]:=by unfold kidsL;rw [show arN L (at' (jl a b 99) p)=0 by unfold arN;rw [if_pos hs]];rfl
   rw [this];simp [subV]
  ·by_cases h:x<0
   ·rw [vn x h];exact vT x h
   ·obtain ⟨p,rfl⟩:=Int.eq_ofNat_of_zero_le (Int.not_lt.1 h)
    have:=vp p
    show IsT L (val (p:Int))
    rw [this]
    unfold IsT
    rw [need_subV _ (fun n _ hn=>vT n hn)]
    exact cut_isT hT (by have:=hx.2;omega)
 have c0:val 0=T:=by
  have:=vp 0
  rw [show ((0:Nat):Int)=0 from rfl] at this
  rw [this,← va]
  congr 1
  unfold cutJ
  rw [show endN L (jl a b 99) 0=a.length from end_first (b:=b.map (shF 99)) x3]
  unfold jl
  rw [List.drop_zero,Nat.sub_zero,List.take_left]
 have cm:val (a.length:Nat)=T:=by
  rw [vp,← vb]
  congr 1
  unfold cutJ
  rw [show endN L (jl a b 99) a.length=a.length+(b.map (shF 99)).length from end_second (a:=a) (isT_sh (by omega) y3)]
  unfold jl
  rw [List.drop_left,Nat.add_sub_cancel_left,List.take_length]
 obtain ⟨ld,k,u,hs,hcl,hu,hk,he,_⟩:=sol_good hT hv (m:=a.length) (by omega) (by omega) hg (by rw [c0,cm])
 refine ⟨u,val,⟨ld,k,hs,hcl,hu,hk⟩,by rw [← c0];exact he,fun n hn h0=>?_⟩
 rw [vn n h0];exact vT n h0
theorem inst_com {L:List Sym} {a b:List Int} (ha:checkE L a=0) (hb:checkE L b=0) {ap:Nat} (hap:ap≤99) {u:List Int} (h:ComU L a b ap u):∃ f:Int→List Int,(∀ n,n<0 → -198≤n→IsT L (f n))∧u=subV f a∧u=subV (fun n=>f (n-ap)) b∧IsT L u∧(∀ n∈u,0≤n→n<(L.length:Int)):=by
 obtain ⟨x1,x2,x3⟩:=checkE_zero.1 ha
 obtain ⟨y1,y2,y3⟩:=checkE_zero.1 hb
 obtain ⟨ld,k,h1,hc,hu,h3⟩:=h
 have p1:=isT_pos x3
 have hl:(jl a b ap).length=a.length+b.length:=by simp [jl]
 obtain ⟨f,hf⟩:=varT_some L (jl a b ap) ld
 obtain ⟨e1,e2⟩:=both_sub (by omega) x3 y3 hc hf hu
 have p0:UPart (jl a b ap) 0:=part_nat (p:=0) (by omega)
 refine ⟨f,fun n hn h=>hf.isT hc.trs hc.ok hn ⟨h,by omega⟩,e1,by rw [← subV_sh f (by omega)];exact e2,hu.isT hc.trs hc.ok p0,fun n hn h0=>?_⟩
 rcases hu.in hc.trs hc.ok p0 n hn with ⟨q,_⟩ | ⟨_,q⟩
 ·omega
 ·unfold jl at q
  rcases List.mem_append.1 q with e | e
  ·exact (badE_zero.1 x2 n e).1
  ·obtain ⟨y,hy,hy2⟩:=List.mem_map.1 e
   have:=(badE_zero.1 y2 y hy).1
   unfold shF at hy2
   split at hy2 <;> omega
theorem com_swap {L:List Sym} {a b:List Int} (ha:checkE L a=0) (hb:checkE L b=0) {u:List Int} (h:ComU L b a 99 u):∃ v,ComU L a b 99 v∧v.length=u.length∧wrF [] u=wrF [] v:=by
 have step:∀ (a b:List Int),checkE L a=0→checkE L b=0→∀ u,ComU L b a 99 u→∃ v g,ComU L a b 99 v∧u=subV g v∧(∀ n∈v,n<0→IsT L (g n)):=by
  intro a b ha hb u h
  obtain ⟨f,h1,h2,h3,_⟩:=inst_com hb ha (ap:=99) (by omega) h
  have la:=fun n hn=>(badE_zero.1 (checkE_zero.1 ha).2.1 n hn).2
  have lb:=fun n hn=>(badE_zero.1 (checkE_zero.1 hb).2.1 n hn).2
  exact most_com ha hb (fa:=fun n=>f (n-((99:Nat):Int))) (fb:=f) (fun n hn h0=>h1 _ (by omega) (by have:=la n hn;omega)) (fun n hn h0=>h1 n h0 (by have:=lb n hn;omega)) h3.symm h2.symm
 obtain ⟨v,g,h1,h2,h3⟩:=step a b ha hb u h
 obtain ⟨u', g', k1,k2,k3⟩:=step b a hb ha v h1
 have:=k1.uniq h
 subst this
 have e:=both_ways h3 k3 h2 k2
 have hl:=congrArg List.length e
 rw [wrF_length,wrF_length] at hl
 exact ⟨v,h1,hl.symm,e⟩
end Go.Proofs.YtdhiiicppcgkbaaGreat
namespace Go.Proofs.YtdhiiicppcgkbaaGreat
set_option maxRecDepth 100000
set_option linter.unusedVariables false
open Go.RowKit
theorem zeros_joint:Tryz.zeroCells304 = #[.slice none 0 0,.slice none 0 0]++Array.replicate 199 (.int .i64 0) ++ #[.slice none 0 0,.slice none 0 0]:=by kernel_rfl
structure ZOk (Z:Array Value):Prop where
 size:Z.size=203
 var:∀ v,1≤v→v<199→Z[2+v]? = some (.int .i64 0)
theorem zok_joint:ZOk Tryz.zeroCells304:=by
 rw [zeros_joint]
 refine ⟨by simp,fun v h1 h2=>?_⟩
 rw [Array.getElem?_append_left (by simp;omega),Array.getElem?_append_right (by simp),Array.getElem?_eq_getElem (by simp;omega)]
 simp
def JZ (Z:Array Value) (l e s z:Value):Array Value:=(((Z.setIfInBounds 0 l).setIfInBounds 1 e).setIfInBounds 201 s).setIfInBounds 202 z
theorem JZ_size {Z:Array Value} (hZ:ZOk Z) (l e s z:Value):(JZ Z l e s z).size=203:=by simp [JZ,hZ.size]
theorem JZ_0 {Z:Array Value} (hZ:ZOk Z) (l e s z:Value):(JZ Z l e s z)[0]? = some l:=by
 have:=JZ_size hZ l e s z
 simp only [JZ,Array.size_setIfInBounds] at this
 simp only [JZ]
 rw [Array.getElem?_setIfInBounds,if_neg (by omega),Array.getElem?_setIfInBounds,if_neg (by omega),Array.getElem?_setIfInBounds,if_neg (by omega),Array.getElem?_setIfInBounds,if_pos rfl,if_pos (by omega)]
theorem JZ_1 {Z:Array Value} (hZ:ZOk Z) (l e s z:Value):(JZ Z l e s z)[1]? = some e:=by
 have:=JZ_size hZ l e s z
 simp only [JZ,Array.size_setIfInBounds] at this
 simp only [JZ]
 rw [Array.getElem?_setIfInBounds,if_neg (by omega),Array.getElem?_setIfInBounds,if_neg (by omega),Array.getElem?_setIfInBounds,if_pos rfl,if_pos (by simp;omega)]
theorem JZ_201 {Z:Array Value} (hZ:ZOk Z) (l e s z:Value):(JZ Z l e s z)[201]? = some s:=by
 have:=JZ_size hZ l e s z
 simp only [JZ,Array.size_setIfInBounds] at this
 simp only [JZ]
 rw [Array.getElem?_setIfInBounds,if_neg (by omega),Array.getElem?_setIfInBounds,if_pos rfl,if_pos (by simp;omega)]
theorem JZ_202 {Z:Array Value} (hZ:ZOk Z) (l e s z:Value):(JZ Z l e s z)[202]? = some z:=by
 have:=JZ_size hZ l e s z
 simp only [JZ,Array.size_setIfInBounds] at this
 simp only [JZ]
 rw [Array.getElem?_setIfInBounds,if_pos rfl,if_pos (by simp;omega)]
theorem JZ_v {Z:Array Value} (hZ:ZOk Z) (l e s z:Value) {v:Nat} (h1:1≤v) (h2:v<199):(JZ Z l e s z)[2+v]? = some (.int .i64 0):=by
 simp only [JZ]
 rw [Array.getElem?_setIfInBounds,if_neg (by omega),Array.getElem?_setIfInBounds,if_neg (by omega),Array.getElem?_setIfInBounds,if_neg (by omega),Array.getElem?_setIfInBounds,if_neg (by omega)]
 exact hZ.var v h1 h2
theorem info_intS:(Tryz.prog.info? 3).map (fun i=>(i.zero,i.size,i.bytes))=some (some (.int .i64 0),1,8):=by kernel_rfl
theorem umade_zero (n i:Nat) (h:i<n):(madeCells #[Value.int .i64 0] n)[i]? = some (.int .i64 0):=by
 simp [madeCells,h,Nat.mod_one]
theorem at_ar {n b:Nat} {w:World} {L:List Sym} (h:Sg n w b L) (x:Int):Calls Tryz.prog 105 #[.pointer (some ⟨b,0,none⟩),.int .i64 x] w fun e w' => ∃ s d c,e=.returned (.tuple #[.agg #[.string s,.int .i64 ((arN L x:Nat):Int),.bool d],.int .i64 c])∧Same0 w w' := by
 obtain ⟨⟨sv,mr,h1,_⟩,ha⟩:=h
 by_cases hx:x<0∨(L.length:Int)≤x
 ·refine (at_no h1 x hx).mono ?_
  rintro e w' ⟨rfl,hk⟩
  exact ⟨_,_,_,by rw [ar_no hx];rfl,hk⟩
 ·obtain ⟨i,rfl⟩:∃ i:Nat,x=(i:Int):=⟨x.toNat,by omega⟩
  have hi:i<L.length:=by omega
  refine (at_yes h1 i hi).mono ?_
  rintro e w' ⟨rfl,hk⟩
  exact ⟨_,_,_,by rw [ar_of ha hi],hk⟩
structure JJ (w0:World) (B:JB) (w:World) (xs:List Int) (M:Nat) (nx:Int→Int) (en sa:Nat→Int):Prop where
 head:Head w B xs.length M nx
 row:w.ownsRow w0.heap.size 3 1 (.slice (some ⟨B.lb,0,none⟩) xs.length M) xs.length (iv xs)
 cap:B.lcap=M
 ends:Nums w B.eb M en
 same:Nums w B.sb M sa
 sizes:Nums w B.zb M (fun _=>0)
 ap:B.Apart
 ap2:B.eb≠B.lb
 new:∀ k,B.Foot k→w0.heap.size≤k
 kept:Same0 w0 w
theorem JJ.same0 {w0:World} {B:JB} {w w' : World} {xs:List Int} {M:Nat} {nx:Int→Int} {en sa:Nat→Int} (h:JJ w0 B w xs M nx en sa) (hk:Same0 w w'):JJ w0 B w' xs M nx en sa:=
 ⟨h.head.kept hk (fun f=>f),hk.row h.row (fun _ _ f=>f),h.cap,h.ends.kept hk (fun f=>f),h.same.kept hk (fun f=>f),h.sizes.kept hk (fun f=>f),h.ap,h.ap2,h.new,h.kept.trans' hk⟩
theorem Head.set0 {w:World} {B:JB} {N M:Nat} {nx:Int→Int} (h:Head w B N M nx) (N' : Nat):Head (w.setCell ⟨B.jb,0,none⟩ (.slice (some ⟨B.lb,0,none⟩) N' B.lcap)) B N' M nx:=by
 obtain ⟨cs,g1,g2,g3,g4,g5,g6,g7⟩:=h
 refine ⟨_,setAt g1 _ _,by simpa using g2,?_,?_,?_,?_,?_⟩
 ·rw [Array.getElem?_setIfInBounds,if_pos rfl,if_pos (by omega)]
 ·rw [Array.getElem?_setIfInBounds,if_neg (by omega)];exact g4
 ·intro k hk1 hk2
  rw [Array.getElem?_setIfInBounds,if_neg (by omega)];exact g5 k hk1 hk2
 ·rw [Array.getElem?_setIfInBounds,if_neg (by omega)];exact g6
 ·rw [Array.getElem?_setIfInBounds,if_neg (by omega)];exact g7
theorem Head.setNo {w:World} {B:JB} {N M:Nat} {nx:Int→Int} (h:Head w B N M nx) (x:Value):Head (w.setCell ⟨B.jb,2,none⟩ x) B N M nx:=by
 obtain ⟨cs,g1,g2,g3,g4,g5,g6,g7⟩:=h
 refine ⟨_,setAt g1 _ _,by simpa using g2,?_,?_,?_,?_,?_⟩
 ·rw [Array.getElem?_setIfInBounds,if_neg (by omega)];exact g3
 ·rw [Array.getElem?_setIfInBounds,if_neg (by omega)];exact g4
 ·intro k hk1 hk2
  rw [Array.getElem?_setIfInBounds,if_neg (by omega)];exact g5 k hk1 hk2
 ·rw [Array.getElem?_setIfInBounds,if_neg (by omega)];exact g6
 ·rw [Array.getElem?_setIfInBounds,if_neg (by omega)];exact g7
theorem head_new {Z:Array Value} (hZ:ZOk Z) (w:World) (B:JB) (M:Nat) (hj:B.jb=w.heap.size) (hc:B.lcap=M):Head (w.alloc (.cells (JZ Z (.slice (some ⟨B.lb,0,none⟩) 0 M) (.slice (some ⟨B.eb,0,none⟩) M M) (.slice (some ⟨B.sb,0,none⟩) M M) (.slice (some ⟨B.zb,0,none⟩) M M)) 304)) B 0 M (fun _=>0):=by
 refine ⟨_,by rw [hj];exact heap_alloc_new _ _,JZ_size hZ _ _ _ _,?_,?_,?_,?_,?_⟩
 ·rw [hc];exact JZ_0 hZ _ _ _ _
 ·exact JZ_1 hZ _ _ _ _
 ·exact fun v h1 h2=>JZ_v hZ _ _ _ _ h1 h2
 ·exact JZ_201 hZ _ _ _ _
 ·exact JZ_202 hZ _ _ _ _
theorem JJ.grow {w0:World} {B:JB} {w w1:World} {xs ys:List Int} {M:Nat} {nx:Int→Int} {en sa:Nat→Int} (h:JJ w0 B w xs M nx en sa) (hk:Kept (fun k=>k=B.lb) w w1) (hr:w1.ownsRow w0.heap.size 3 1 (.slice (some ⟨B.lb,0,none⟩) (xs++ys).length M) (xs++ys).length (iv (xs++ys))):JJ w0 B (w1.setCell ⟨B.jb,0,none⟩ (.slice (some ⟨B.lb,0,none⟩) (xs++ys).length M)) (xs++ys) M nx en sa:=by
 have hk2:Kept (fun k=>k=B.jb) w1 (w1.setCell ⟨B.jb,0,none⟩ (.slice (some ⟨B.lb,0,none⟩) (xs++ys).length M)):=Kept.setCell (S:=fun k=>k=B.jb) (p:=⟨B.jb,0,none⟩) (Kept.refl _ _) (fun _=>rfl) _
 have ap:=h.ap
 have hh:=(h.head.kept hk ap.a1).set0 (xs++ys).length
 rw [h.cap] at hh
 refine ⟨hh,hk2.row hr (fun k e f=>by simp [Value.ownBlock] at e;exact ap.a1 (by omega)),h.cap,(h.ends.kept hk h.ap2).kept hk2 (fun e=>ap.a2 e.symm),(h.same.kept hk ap.a5).kept hk2 (fun e=>ap.a3 e.symm),(h.sizes.kept hk ap.a8).kept hk2 (fun e=>ap.a4 e.symm),ap,h.ap2,h.new,?_⟩
 have k1:Same0 w0 w1:=h.kept.trans hk (fun i hi e=>by have:=h.new B.lb (.inr (.inl rfl));omega)
 exact k1.trans hk2 (fun i hi e=>by have:=h.new B.jb (.inl rfl);omega)
theorem JJ.stand {w0:World} {B:JB} {w:World} {xs:List Int} {M:Nat} {nx:Int→Int} {en sa:Nat→Int} (h:JJ w0 B w xs M nx en sa) {v:Nat} (hv:v<199) (x:Int):JJ w0 B (w.setCell ⟨B.jb,2+v,none⟩ (.int .i64 x)) xs M (fun y=>if y = -(v:Int) then x else nx y) en sa:=by
 have hk2:Kept (fun k=>k=B.jb) w (w.setCell ⟨B.jb,2+v,none⟩ (.int .i64 x)):=Kept.setCell (S:=fun k=>k=B.jb) (p:=⟨B.jb,2+v,none⟩) (Kept.refl _ _) (fun _=>rfl) _
 have ap:=h.ap
 have hh:Head (w.setCell ⟨B.jb,2+v,none⟩ (.int .i64 x)) B xs.length M (fun y=>if y = -(v:Int) then x else nx y):=by
  by_cases h0:v=0
  ·subst h0
   exact (h.head.setNo _).congr (fun u h1 h2=>by rw [if_neg (by omega)])
  ·exact h.head.set (by omega) hv x
 exact ⟨hh,hk2.row h.row (fun k e f=>by simp [Value.ownBlock] at e;exact ap.a1 (by omega)),h.cap,h.ends.kept hk2 (fun e=>ap.a2 e.symm),h.same.kept hk2 (fun e=>ap.a3 e.symm),h.sizes.kept hk2 (fun e=>ap.a4 e.symm),ap,h.ap2,h.new,h.kept.trans hk2 (fun i hi e=>by have:=h.new B.jb (.inl rfl);omega)⟩
theorem JJ.setSame {w0:World} {B:JB} {w:World} {xs:List Int} {M:Nat} {nx:Int→Int} {en sa:Nat→Int} (h:JJ w0 B w xs M nx en sa) (i:Nat) (x:Int):JJ w0 B (w.setCell ⟨B.sb,i,none⟩ (.int .i64 x)) xs M nx en (fun k=>if k=i then x else sa k):=by
 have hk2:Kept (fun k=>k=B.sb) w (w.setCell ⟨B.sb,i,none⟩ (.int .i64 x)):=Kept.setCell (S:=fun k=>k=B.sb) (p:=⟨B.sb,i,none⟩) (Kept.refl _ _) (fun _=>rfl) _
 have ap:=h.ap
 exact ⟨h.head.kept hk2 ap.a3,hk2.row h.row (fun k e f=>by simp [Value.ownBlock] at e;exact ap.a5 (by omega)),h.cap,h.ends.kept hk2 (fun e=>ap.a6 e.symm),h.same.set i x,h.sizes.kept hk2 (fun e=>ap.a7 e.symm),ap,h.ap2,h.new,h.kept.trans hk2 (fun i hi e=>by have:=h.new B.sb (.inr (.inr (.inr (.inl rfl))));omega)⟩
theorem JJ.setEnd {w0:World} {B:JB} {w:World} {xs:List Int} {M:Nat} {nx:Int→Int} {en sa:Nat→Int} (h:JJ w0 B w xs M nx en sa) (i:Nat) (x:Int):JJ w0 B (w.setCell ⟨B.eb,i,none⟩ (.int .i64 x)) xs M nx (fun k=>if k=i then x else en k) sa:=by
 have hk2:Kept (fun k=>k=B.eb) w (w.setCell ⟨B.eb,i,none⟩ (.int .i64 x)):=Kept.setCell (S:=fun k=>k=B.eb) (p:=⟨B.eb,i,none⟩) (Kept.refl _ _) (fun _=>rfl) _
 have ap:=h.ap
 exact ⟨h.head.kept hk2 ap.a2,hk2.row h.row (fun k e f=>by simp [Value.ownBlock] at e;exact h.ap2 (by omega)),h.cap,h.ends.set i x,h.same.kept hk2 ap.a6,h.sizes.kept hk2 ap.a9,ap,h.ap2,h.new,h.kept.trans hk2 (fun i hi e=>by have:=h.new B.eb (.inr (.inr (.inl rfl)));omega)⟩
theorem JJ.congr {w0:World} {B:JB} {w:World} {xs:List Int} {M:Nat} {nx ny:Int→Int} {en sa en' sa' : Nat→Int} (h:JJ w0 B w xs M nx en sa) (e1:∀ v:Nat,1≤v→v<199→nx (-(v:Int))=ny (-(v:Int))) (e2:∀ i,i<M→en i=en' i) (e3:∀ i,i<M→sa i=sa' i):JJ w0 B w xs M ny en' sa' :=
 ⟨h.head.congr e1,h.row,h.cap,h.ends.congr e2,h.same.congr e3,h.sizes,h.ap,h.ap2,h.new,h.kept⟩
theorem nums_new (w:World) (n:Nat):Nums (w.alloc (.cells (madeCells #[.int .i64 0] n) 3)) w.heap.size n (fun _=>0):=
 ⟨_,_,heap_alloc_new _ _,by rw [size_madeCells];exact Nat.le_refl _,fun i hi=>umade_zero n i hi⟩
theorem jj_new {Z:Array Value} (hZ:ZOk Z) {w0:World} (M h p1 p2 p3 p4:Nat) (hh:h=w0.heap.size) (hM:M≤maxLen) (q1:h≤p1∧p1≤h+3) (q2:h≤p2∧p2≤h+3) (q3:h≤p3∧p3≤h+3) (q4:h≤p4∧p4≤h+3) (d:p1≠p2∧p1≠p3∧p1≠p4∧p2≠p3∧p2≠p4∧p3≠p4) (n:Nat) :
  JJ w0 ⟨h+4,p1,p2,p3,p4,M⟩ ((((((w0.alloc (.cells (madeCells #[.int .i64 0] M) 3)).alloc (.cells (madeCells #[.int .i64 0] M) 3)).alloc (.cells (madeCells #[.int .i64 0] M) 3)).alloc (.cells (madeCells #[.int .i64 0] M) 3)).alloc (.cells (JZ Z (.slice (some ⟨p1,0,none⟩) 0 M) (.slice (some ⟨p2,0,none⟩) M M) (.slice (some ⟨p3,0,none⟩) M M) (.slice (some ⟨p4,0,none⟩) M M)) 304)).drewN n) [] M (fun _=>0) (fun _=>0) (fun _=>0):=by
 subst hh
 obtain ⟨w1,e1⟩:∃ w1,w1=w0.alloc (.cells (madeCells #[.int .i64 0] M) 3):=⟨_,rfl⟩
 obtain ⟨w2,e2⟩:∃ w2,w2=w1.alloc (.cells (madeCells #[.int .i64 0] M) 3):=⟨_,rfl⟩
 obtain ⟨w3,e3⟩:∃ w3,w3=w2.alloc (.cells (madeCells #[.int .i64 0] M) 3):=⟨_,rfl⟩
 obtain ⟨w4,e4⟩:∃ w4,w4=w3.alloc (.cells (madeCells #[.int .i64 0] M) 3):=⟨_,rfl⟩
 rw [← e1,← e2,← e3,← e4]
 have z1:w1.heap.size=w0.heap.size+1:=by rw [e1,World.size_alloc]
 have z2:w2.heap.size=w0.heap.size+2:=by rw [e2,World.size_alloc,z1]
 have z3:w3.heap.size=w0.heap.size+3:=by rw [e3,World.size_alloc,z2]
 have z4:w4.heap.size=w0.heap.size+4:=by rw [e4,World.size_alloc,z3]
 have k1:Same0 w0 w1:=by rw [e1];exact (Kept.refl _ w0).alloc _
 have k2:Same0 w1 w2:=by rw [e2];exact (Kept.refl _ w1).alloc _
 have k3:Same0 w2 w3:=by rw [e3];exact (Kept.refl _ w2).alloc _
 have k4:Same0 w3 w4:=by rw [e4];exact (Kept.refl _ w3).alloc _
 have b1:w4.heap[w0.heap.size]? = some (.cells (madeCells #[.int .i64 0] M) 3 (0,0)):=((k2.trans' k3).trans' k4).at0 (by rw [e1];exact heap_alloc_new _ _)
 have b2:w4.heap[w0.heap.size+1]? = some (.cells (madeCells #[.int .i64 0] M) 3 (0,0)):=(k3.trans' k4).at0 (by rw [← z1,e2];exact heap_alloc_new _ _)
 have b3:w4.heap[w0.heap.size+2]? = some (.cells (madeCells #[.int .i64 0] M) 3 (0,0)):=k4.at0 (by rw [← z2,e3];exact heap_alloc_new _ _)
 have b4:w4.heap[w0.heap.size+3]? = some (.cells (madeCells #[.int .i64 0] M) 3 (0,0)):=by rw [← z3,e4];exact heap_alloc_new _ _
 have ball:∀ p,w0.heap.size≤p→p≤w0.heap.size+3→w4.heap[p]? = some (.cells (madeCells #[.int .i64 0] M) 3 (0,0)):=by
  intro p h1 h2
  rcases (show p=w0.heap.size∨p=w0.heap.size+1∨p=w0.heap.size+2∨p=w0.heap.size+3 by omega) with e | e | e | e <;> rw [e] <;> assumption
 have hd:=head_new hZ w4 ⟨w0.heap.size+4,p1,p2,p3,p4,M⟩ M z4.symm rfl
 obtain ⟨w5,e5⟩:∃ w5,w5=w4.alloc (.cells (JZ Z (.slice (some ⟨p1,0,none⟩) 0 M) (.slice (some ⟨p2,0,none⟩) M M) (.slice (some ⟨p3,0,none⟩) M M) (.slice (some ⟨p4,0,none⟩) M M)) 304):=⟨_,rfl⟩
 simp only at hd
 rw [← e5] at hd ⊢
 have k5:Same0 w4 w5:=by rw [e5];exact (Kept.refl _ w4).alloc _
 have K:Same0 w0 w5:=(((k1.trans' k2).trans' k3).trans' k4).trans' k5
 have ball5:∀ p,w0.heap.size≤p→p≤w0.heap.size+3→Nums w5 p M (fun _=>0):=fun p h1 h2=>⟨_,_,k5.at0 (ball p h1 h2),by rw [size_madeCells];exact Nat.le_refl _,fun i hi=>umade_zero M i hi⟩
 have J5:JJ w0 ⟨w0.heap.size+4,p1,p2,p3,p4,M⟩ w5 [] M (fun _=>0) (fun _=>0) (fun _=>0):=by
  refine ⟨hd,⟨rfl,.inr ⟨p1,M,_,rfl,q1.1,k5.at0 (ball p1 q1.1 q1.2),Nat.zero_le _,hM,by rw [size_madeCells];omega,rfl⟩⟩,rfl,ball5 p2 q2.1 q2.2,ball5 p3 q3.1 q3.2,ball5 p4 q4.1 q4.2,⟨?_,?_,?_,?_,?_,?_,?_,?_,?_⟩,?_,?_,K⟩
  all_goals try (simp only;omega)
  intro k hk
  simp only [JB.Foot] at hk
  omega
 exact J5.same0 ((Kept.refl _ w5).drewN n)
end Go.Proofs.YtdhiiicppcgkbaaGreat
