import Derived.Test.YtjahpnbijefncaaGreatCR03
import Derived.Test.YtjahpnbijefncaaGreatCR04
import Derived.Laws.AppendOwnNone
import Derived.Deep.WholeRow
namespace Go.Proofs.YtjahpnbijefncaaGreat
set_option linter.unusedVariables false
open Go.RowKit
attribute [local go_sem ↓] Go.wp_at_zero Go.wp_at_succ
set_option maxHeartbeats 1000000 in
theorem rIsV_any (x:Int) (w:World):Calls Tryz.prog 183 #[.int .i64 x] w fun e w' => e=.returned (.bool (isV x))∧w' = w:=by
 by_cases h1:x<0
 ·by_cases h2 : -99≤x
  ·have H:Hid (isV x=true):=by show _=_;simp [isV];omega
   go_enter Tryz.func183,Tryz.ntmps183
   go_wp2
   go_ret
   exact ⟨by rw [H.out];rfl,rfl⟩
  ·have H:Hid (isV x=false):=by show _=_;simp [isV];omega
   go_enter Tryz.func183,Tryz.ntmps183
   go_wp2
   go_ret
   exact ⟨by rw [H.out];rfl,rfl⟩
 ·have H:Hid (isV x=false):=by show _=_;simp [isV];omega
  go_enter Tryz.func183,Tryz.ntmps183
  go_wp2
  go_ret
  exact ⟨by rw [H.out];rfl,rfl⟩
def inB (l:List Int) (n:Int):Bool:=decide (n∈l)
set_option maxHeartbeats 1000000 in
theorem rIn_any {w:World} {ao:Option Addr} {cap:Nat} {l:List Int} (hl:IntsAt w ao l) (n:Int) (hm:l.length≤maxLen):Calls Tryz.prog 175 #[.slice ao l.length cap,.int .i64 n] w fun e w' => e=.returned (.bool (inB l n))∧w' = w:=by
 unfold maxLen at hm
 go_enter Tryz.func175,Tryz.ntmps175
 go_wp2
 go_loop [5] (fun i=>∃ k:Nat,k≤l.length∧i=.int .i64 (k:Int)∧Hid (¬ n∈l.take k)) (fun i=>l.length-(intOf i).toNat)
 case atStart=>exact ⟨0,Nat.zero_le _,rfl,by simp [Hid]⟩
 case round=>
  obtain ⟨k,hk,rfl,hn⟩:=hrel
  by_cases hlt:k<l.length
  ·obtain ⟨b,off,rfl,_,hc⟩:=hl.get hlt
   have i1:(0:Int)≤(k:Int):=by omega
   have i2:(k:Int)<(l.length:Int):=by omega
   by_cases he:l[k]=n
   ·have H:Hid (inB l n=true):=by show _=_;simp [inB];rw [← he];exact List.getElem_mem hlt
    have he' : (l[k] == n)=true:=by simpa using he
    go_wp2
    go_ret
    exact ⟨by rw [H.out];rfl,rfl⟩
   ·have he' : (l[k] == n)=false:=by simpa using he
    have hn' : Hid (¬ n∈l.take (k+1)):=by
     rw [List.take_add_one,List.getElem?_eq_getElem hlt]
     intro hh
     rcases List.mem_append.1 hh with hh | hh
     ·exact hn.out hh
     ·simp at hh;exact he hh.symm
    go_wp2
    exact ⟨⟨k+1,by omega,by go_num,hn'⟩,by simp [intOf];omega⟩
  ·have H:Hid (inB l n=false):=by
    have:=hn.out
    rw [List.take_of_length_le (by omega)] at this
    show _=_;simpa [inB] using this
   go_wp2
   go_ret
   exact ⟨by rw [H.out];rfl,rfl⟩
theorem vstep_yes {o:List Int} {x:Int} (h1:isV x=true) (h2:inB o (-x)=false):vstep o x=o ++ [-x]:=by
 rw [vstep,if_pos ⟨h1,by simpa [inB] using h2⟩]
theorem vstep_in {o:List Int} {x:Int} (h2:inB o (-x)=true):vstep o x=o:=by
 rw [vstep,if_neg (by simp [inB] at h2;simp [h2])]
theorem vstep_no {o:List Int} {x:Int} (h1:isV x=false):vstep o x=o:=by
 rw [vstep,if_neg (by simp [h1])]
set_option maxHeartbeats 2000000 in
theorem rvars_any {w:World} {ao:Option Addr} {cap:Nat} {t:List Int} (ht:IntsAt w ao t) (hm:t.length * 8≤140737488351232) :
  Calls Tryz.prog 174 #[.slice ao t.length cap] w fun e w' => ∃ v,e=.returned v∧Row w.heap.size w' v (varsL t)∧Same0 w w' := by
 go_enter Tryz.func174,Tryz.ntmps174
 go_wp2
 go_loopw [3,4] (fun ov i wr=>∃ k:Nat,k≤t.length∧i=.int .i64 (k:Int)∧Row w.heap.size wr ov (varsL (t.take k))∧Same0 w wr) (fun _ i _=>t.length-(intOf i).toNat)
 case atStart=>exact ⟨0,Nat.zero_le _,rfl,World.ownsRow_nil _ _ _ _,Kept.refl _ _⟩
 case round=>
  obtain ⟨k,hk,rfl,hr,hs⟩:=hrel
  obtain ⟨oo,ocap,rfl⟩:=row_shape hr
  by_cases hlt:k<t.length
  ·obtain ⟨b,off,rfl,_,hc⟩:=(ht.same hs).get hlt
   have i1:(0:Int)≤(k:Int):=by omega
   have i2:(k:Int)<(t.length:Int):=by omega
   have E:Hid (varsL (t.take (k+1))=vstep (varsL (t.take k)) t[k]):=vs_take hlt
   have hl:=vs_len [] (t.take k)
   have hl2:(varsL (t.take k)).length≤t.length:=by simp at hl;unfold varsL;omega
   have cV:=fun w' => rIsV_any t[k] w'
   clear hl
   generalize hO:varsL (t.take k)=O at *
   generalize hX:t[k]=x at *
   cases hv:isV x with
   | false=>
    have E1:Hid (varsL (t.take (k+1))=O):=by rw [E.out];exact vstep_no hv
    rw [← E1.out] at hr
    simp only [hv] at cV
    have hlE:=congrArg List.length E1.out
    rw [← hlE]
    clear hlE
    go_wp2_with (first | (go_at_call 183;refine (cV _).mono ?_;rintro e wr ⟨rfl,rfl⟩))
    go_roundw
    case rel=>first | exact ⟨k+1,by omega,by go_num,hr,hs⟩ | ((repeat apply Exists.intro);exact ⟨⟨k+1,by omega,by go_num,hr,hs⟩,rfl⟩)
    case measure=>simp [intOf];omega
   | true=>
    simp only [hv] at cV
    have hx:=isV_iff.1 hv
    obtain ⟨oo', ocap', hvv,io,_,_⟩:=hr.ints
    simp only [Value.slice.injEq,true_and] at hvv
    obtain ⟨rfl,rfl⟩:=hvv
    have cI:=rIn_any (cap:=ocap) io (-x) (by unfold maxLen;omega)
    cases hin:inB O (-x) with
    | true=>
     have E1:Hid (varsL (t.take (k+1))=O):=by rw [E.out];exact vstep_in hin
     rw [hin] at cI
     go_wp2_with (first | (go_at_call 183;refine (cV _).mono ?_;rintro e wr ⟨rfl,rfl⟩) | (go_at_call 175;refine cI.mono ?_;rintro e wr ⟨rfl,rfl⟩))
     rw [← E1.out] at hr
     have hrE:Row w.heap.size wr (.slice oo O.length ocap) (varsL (t.take (k+1))):=by rw [E1.out] at hr ⊢;exact hr
     exact ⟨⟨k+1,by omega,by go_num,hrE,hs⟩,by simp [intOf];omega⟩
    | false=>
     have E1:Hid (varsL (t.take (k+1))=O ++ [-x]):=by rw [E.out];exact vstep_yes hv hin
     rw [hin] at cI
     have hb8:(O.length+1) * 8≤140737488355328:=by omega
     have hss:=hs.size
     go_wp2_with (first | (go_at_call 183;refine (cV _).mono ?_;rintro e wr ⟨rfl,rfl⟩) | (go_at_call 175;refine cI.mono ?_;rintro e wr ⟨rfl,rfl⟩) | (at_builtin;refine wpList_push rfl _ _ 32 rfl Tryz.underlying32 w.heap.size O _ rfl hr (-x) rfl hss hb8 ?_;intro g gcap w4 hr4 hk4 _;have hs4:=hs.onto hr hk4))
     rw [← E1.out] at hr4
     go_roundw
     case rel=>first | exact ⟨k+1,by omega,by go_num,hr4,hs4⟩ | ((repeat apply Exists.intro);exact ⟨⟨k+1,by omega,by go_num,hr4,hs4⟩,rfl⟩)
     case measure=>simp [intOf];omega
  ·obtain rfl:k=t.length:=by omega
   rw [List.take_length] at hr
   go_wp2
   go_ret
   refine ⟨_,rfl,?_,hs⟩
   simpa using hr
theorem zeros_bool:Tryz.zeroCells285=Array.replicate 100 (.bool false):=by kernel_rfl
def MetAt (w:World) (A:Nat) (o:List Int):Prop:=∃ cs,w.heap[A]? = some (.cells cs 285 (0,0))∧cs.size=100∧∀ v:Nat,1≤v→v≤99→cs[v]? = some (.bool (inB o (v:Int)))
theorem met_new (w:World):MetAt (w.alloc (.cells Tryz.zeroCells285 285)) w.heap.size []:=by
 refine ⟨_,heap_alloc_new w _,by rw [zeros_bool];simp,fun v h1 h2=>?_⟩
 rw [zeros_bool,Array.getElem?_replicate,if_pos (by omega)]
 simp [inB]
theorem MetAt.kept {w w' : World} {A:Nat} {o:List Int} {S:Nat→Prop} (h:MetAt w A o) (hk:Kept S w w') (hn:¬ S A):MetAt w' A o:=by
 obtain ⟨cs,h1,h2⟩:=h
 exact ⟨cs,hk.at h1 hn,h2⟩
theorem MetAt.cell {w:World} {A:Nat} {o:List Int} (h:MetAt w A o) {v:Nat} (h1:1≤v) (h2:v≤99):w.cell? ⟨A,v,none⟩=some (.bool (inB o (v:Int)))∧w.frozen? ⟨A,v,none⟩=false:=by
 obtain ⟨cs,q1,q2,q3⟩:=h
 exact ⟨(cellAt q1 v).trans (q3 v h1 h2),frozenAt q1 v⟩
theorem MetAt.set {w:World} {A:Nat} {o:List Int} (h:MetAt w A o) {v:Nat} (h1:1≤v) (h2:v≤99):MetAt (w.setCell ⟨A,v,none⟩ (.bool true)) A (o ++ [(v:Int)]):=by
 obtain ⟨cs,q1,q2,q3⟩:=h
 refine ⟨_,setAt q1 v _,by simpa using q2,fun u g1 g2=>?_⟩
 rw [Array.getElem?_setIfInBounds]
 by_cases e:v=u
 ·subst e;rw [if_pos rfl,if_pos (by omega)];simp [inB]
 ·rw [if_neg e,q3 u g1 g2]
  congr 2
  simp [inB];omega
set_option maxHeartbeats 4000000 in
theorem tvars_any {w:World} {ao:Option Addr} {cap:Nat} {t:List Int} (ht:IntsAt w ao t) (hm:t.length * 8≤140737488351232) :
  Calls Tryz.prog 169 #[.slice ao t.length cap] w fun e w' => ∃ v,e=.returned v∧Row w.heap.size w' v (varsL t)∧Same0 w w' := by
 have M0:=met_new w
 have K0:Same0 w (w.alloc (.cells Tryz.zeroCells285 285)):=(Kept.refl _ w).alloc _
 go_enter Tryz.func169,Tryz.ntmps169
 go_wp2
 go_loopw [4,9] (fun ov i wr=>∃ k:Nat,k≤t.length∧i=.int .i64 (k:Int)∧Row w.heap.size wr ov (varsL (t.take k))∧MetAt wr w.heap.size (varsL (t.take k))∧ov.ownBlock≠some w.heap.size∧Same0 w wr) (fun _ i _=>t.length-(intOf i).toNat)
 case atStart=>exact ⟨0,Nat.zero_le _,rfl,World.ownsRow_nil _ _ _ _,M0,by simp [Value.ownBlock],K0⟩
 case round=>
  clear M0 K0
  obtain ⟨k,hk,rfl,hr,hM,hne,hs⟩:=hrel
  obtain ⟨oo,ocap,rfl⟩:=row_shape hr
  by_cases hlt:k<t.length
  ·obtain ⟨b,off,rfl,_,hc⟩:=(ht.same hs).get hlt
   have i1:(0:Int)≤(k:Int):=by omega
   have i2:(k:Int)<(t.length:Int):=by omega
   have E:Hid (varsL (t.take (k+1))=vstep (varsL (t.take k)) t[k]):=vs_take hlt
   have hl:=vs_len [] (t.take k)
   have hl2:(varsL (t.take k)).length≤t.length:=by simp at hl;unfold varsL;omega
   have cV:=fun w' => isVariable_any t[k] w'
   clear hl
   generalize hO:varsL (t.take k)=O at *
   generalize hX:t[k]=x at *
   cases hv:isV x with
   | false=>
    have E1:Hid (varsL (t.take (k+1))=O):=by rw [E.out];exact vstep_no hv
    simp only [hv] at cV
    go_wp2_with (first | (go_at_call 135;refine (cV _).mono ?_;rintro e wr ⟨rfl,rfl⟩))
    have hrE:Row w.heap.size wr (.slice oo O.length ocap) (varsL (t.take (k+1))):=by rw [E1.out];exact hr
    have hME:MetAt wr w.heap.size (varsL (t.take (k+1))):=by rw [E1.out];exact hM
    exact ⟨⟨k+1,by omega,by go_num,hrE,hME,hne,hs⟩,by simp [intOf];omega⟩
   | true=>
    simp only [hv] at cV
    have hx:=isV_iff.1 hv
    obtain ⟨v,rfl⟩:∃ v:Nat,x = -(v:Int):=⟨(-x).toNat,by omega⟩
    have hv1:1≤v:=by omega
    have hv2:v≤99:=by omega
    obtain ⟨q1,q2⟩:=hM.cell hv1 hv2
    have j1:(0:Int)≤(v:Int):=by omega
    have j2:(v:Int)<100:=by omega
    cases hin:inB O (v:Int) with
    | true=>
     have E1:Hid (varsL (t.take (k+1))=O):=by rw [E.out];exact vstep_in (by simpa using hin)
     rw [hin] at q1
     go_wp2_with (first | (go_at_call 135;refine (cV _).mono ?_;rintro e wr ⟨rfl,rfl⟩))
     have hrE:Row w.heap.size wr (.slice oo O.length ocap) (varsL (t.take (k+1))):=by rw [E1.out];exact hr
     have hME:MetAt wr w.heap.size (varsL (t.take (k+1))):=by rw [E1.out];exact hM
     exact ⟨⟨k+1,by omega,by go_num,hrE,hME,hne,hs⟩,by simp [intOf];omega⟩
    | false=>
     have E1:Hid (varsL (t.take (k+1))=O ++ [(v:Int)]):=by show _=_;rw [E.out,vstep_yes hv (by simpa using hin)];simp
     rw [hin] at q1
     have hb8:(O.length+1) * 8≤140737488355328:=by omega
     have hMs:=hM.set hv1 hv2
     have ks:Kept (fun k=>k=w.heap.size) wr (wr.setCell ⟨w.heap.size,v,none⟩ (.bool true)):=Kept.setCell (S:=fun k=>k=w.heap.size) (p:=⟨w.heap.size,v,none⟩) (Kept.refl _ _) (fun _=>rfl) _
     have hrs:Row w.heap.size (wr.setCell ⟨w.heap.size,v,none⟩ (.bool true)) (.slice oo O.length ocap) O:=ks.row hr (fun k e e' => hne (by rw [e,e']))
     have hss:Same0 w (wr.setCell ⟨w.heap.size,v,none⟩ (.bool true)):=hs.own (Nat.le_refl _) _
     have hsz:=hss.size
     have hAl:w.heap.size<wr.heap.size:=by obtain ⟨cs,q,_⟩:=hM;exact lt_of_at q
     have E3:Hid ((wr.setCell ⟨w.heap.size,v,none⟩ (.bool true)).heap.size=wr.heap.size):=by show _=_;simp [World.setCell]
     clear hM hr
     go_wp2_with (first | (go_at_call 135;refine (cV _).mono ?_;rintro e wr ⟨rfl,rfl⟩) | (at_builtin;refine wpList_push rfl _ _ 32 rfl Tryz.underlying32 w.heap.size O (.slice oo O.length ocap) rfl hrs (v:Int) (by rw [E3.out];rfl) hsz hb8 ?_;intro g gcap w4 hr4 hk4 hat4;have hs4:=hss.onto hrs hk4))
     have hM4:MetAt w4 w.heap.size (O ++ [(v:Int)]):=hMs.kept hk4 hne
     have hne4:Value.ownBlock (.slice (some ⟨g,0,none⟩) (O.length+1) gcap)≠some w.heap.size:=by
      simp only [Value.ownBlock,ne_eq,Option.some.injEq]
      rcases hat4 with e | e
      ·intro e'; exact hne (by rw [e,e'])
      ·have e3:=E3.out
       omega
     rw [← E1.out] at hr4 hM4
     go_roundw
     case rel=>first | exact ⟨k+1,by omega,by go_num,hr4,hM4,hne4,hs4⟩ | ((repeat apply Exists.intro);exact ⟨⟨k+1,by omega,by go_num,hr4,hM4,hne4,hs4⟩,rfl⟩)
     case measure=>simp [intOf];omega
  ·obtain rfl:k=t.length:=by omega
   rw [List.take_length] at hr
   go_wp2
   go_ret
   refine ⟨_,rfl,?_,hs⟩
   simpa using hr
def Lists (w:World) (lo:Option Addr) (ls:List (List Int)):Prop:=
 ls=[]∨∃ b off,lo=some ⟨b,off,none⟩∧b<w.heap.size∧∀ i (h:i<ls.length),∃ ao cap,w.cell? ⟨b,off+i,none⟩=some (.slice ao ls[i].length cap)∧IntsAt w ao ls[i]∧(ao=none→ls[i].length=0∧cap=0)
structure PlAt (s:Nat) (wr:World) (g n:Nat) (cs:List Value) (done:List (List Int)):Prop where
 row:wr.ownsRow s 64 1 (.slice (some ⟨g,0,none⟩) n n) n cs
 len:done.length≤n
 each:∀ j (h:j<done.length),∃ v,cs[j]? = some v∧Row s wr v done[j]∧v.ownBlock≠some g
 apart:∀ i j vi vj,i<done.length→j<done.length→i≠j→cs[i]? = some vi→cs[j]? = some vj→∀ k,vi.ownBlock=some k→vj.ownBlock≠some k
theorem take_one {α:Type} {t:List α} {k:Nat} (hk:k<t.length):t.take (k+1)=t.take k ++ [t[k]]:=by
 rw [List.take_add_one,List.getElem?_eq_getElem hk];rfl
def Over (base g n:Nat) (w wr:World):Prop:=(∃ ys,wr.ownsRow base 3 1 (.slice (some ⟨g,0,none⟩) n n) n ys)∧Kept (fun k=>k=g) w wr
theorem wpList_more {w0:World} {ops:Array Oper} {rest:List Oper} {o:Oper} {a:Act} {Q:Exit→Act→World→Prop} (hgd:o.guard=none) (s x:Operand) (t:TypeId)
  (ho:o.op=.call { callee:=.builtin .append,args:=#[s,x],argTypes:=#[t,t] }) (ht:Tryz.prog.underlying t=some (.slice 3))
  (base:Nat) (xs:List Int) (v:Value) (hs:a.eval s=v) (hr:Row base w0 v xs) (ys:List Int) (ad:Addr) (m c:Nat) (hx:a.eval x=.slice (some ad) m c) (hm:m=ys.length) (hy:IntsAt w0 (some ad) ys) (hb:base≤w0.heap.size) (hsz:(xs.length+ys.length) * 8≤140737488355328)
  (h:∀ v' w', Row base w' v' (xs++ys)→Kept (fun k=>v.ownBlock=some k) w0 w' → wpList Tryz.prog ops Q rest (a.put o.dst v') w') :
  wpList Tryz.prog ops Q (o :: rest) a w0:=by
 subst hm
 obtain ⟨i,hi,hz0,hz1,hz2⟩:=info_parts info_intT
 refine wpList_append_own _ hgd s x t ho base 3 i (.int .i64 0) 1 8 ht hi hz0 hz1 hz2 rfl (by decide) v xs.length (iv xs) hs hr ad ys.length c (iv ys) hx (by rw [iv_length];omega) (fun j u hj=>?_) (iv_oneCell ys) (by unfold maxLen;omega) hsz hb ?_
 ·obtain ⟨ad', e,hc⟩:=hy.src (by have:=(List.getElem?_eq_some_iff.1 hj).1;omega)
  cases e
  exact hc j u hj
 ·intro v' w' hown hgrow _
  refine h v' w' ?_ (Kept.grown (Kept.refl _ w0) hgrow (fun _ e _=>e))
  unfold Row;rw [iv_append,List.length_append];exact hown
theorem row_empty (w:World) (base:Nat) (hb:base≤w.heap.size) {o:Obj} (ho:o=.cells #[] 3 (0,0)):Row base (w.alloc o) (.slice (some ⟨w.heap.size,0,none⟩) 0 0) []:=by
 subst ho
 exact ⟨rfl,.inr ⟨w.heap.size,0, #[],rfl,hb,heap_alloc_new w _,Nat.le_refl _,by unfold maxLen;omega,rfl,rfl⟩⟩
set_option maxHeartbeats 2000000 in
theorem rsub_any {n:Nat} {w:World} {rv:Value} {L:List Sym} (h:Rl n w rv L) {ao:Option Addr} {cap:Nat} {t:List Int} (ht:IntsAt w ao t) (hm:t.length≤2000) (hcap:t.length≤cap) (hT:IsT L t) (p:Nat) (hp:p<t.length) :
  Calls Tryz.prog 26 #[rv,.slice ao t.length cap,.int .i64 (p:Int)] w fun e w' => ∃ v,e=.returned v∧Row w.heap.size w' v (subN L t p)∧Same0 w w' := by
 have c2:∀ w1,Same0 w w1→Calls Tryz.prog 67 #[rv,.slice ao t.length cap,.int .i64 (p:Int)] w1 fun e w' => e=.returned (.int .i64 (endN L t p:Int))∧w' = w1:=fun w1 hk=>rend_any (cap:=cap) (h.same hk) (ht.same hk) hm p (by omega)
 obtain ⟨ro,rcap,rfl⟩:=row_shape h.1
 obtain ⟨hl1,hl2⟩:=endN_le hT hp
 obtain ⟨tb,off,rfl,htb,hc⟩:=ht.get hp
 have hsl:=sub_length hT hp
 have i0:¬ (p:Int)<0:=by omega
 have i1:(0:Int)≤(p:Int):=by omega
 have i2:(p:Int)≤(endN L t p:Int):=by omega
 have i3:(endN L t p:Int)≤(cap:Int):=by omega
 have i4:¬ cap=p:=by omega
 have i5:(p:Int)<(t.length:Int):=by omega
 have cutI:∀ w1,Same0 w w1→IntsAt w1 (some ⟨tb,off+p,none⟩) (subN L t p):=fun w1 hk=>(ht.same hk).cut p (endN L t p)
 go_enter Tryz.func26,Tryz.ntmps26
 have k0:Same0 w (w.alloc (.cells #[] 3)):=(Kept.refl _ w).alloc _
 have r0:Row w.heap.size (w.alloc (.cells #[] 3)) (.slice (some ⟨w.heap.size,0,none⟩) 0 0) []:=row_empty w _ (Nat.le_refl _) rfl
 have cI:=cutI _ k0
 have c3:=c2 _ k0
 have z0:=k0.size
 clear c2 cutI
 go_wp2_with (first | (go_at_call 67;refine c3.mono ?_;rintro e w' ⟨rfl,rfl⟩) | (at_builtin;refine wpList_more rfl _ _ 64 rfl Tryz.underlying64 w.heap.size [] _ rfl r0 (subN L t p) _ _ _ rfl (by omega) cI z0 (by simp;omega) ?_;intro v' w4 hr4 hk4))
 go_ret
 exact ⟨_,rfl,by simpa using hr4,k0.onto r0 hk4⟩
end Go.Proofs.YtjahpnbijefncaaGreat
namespace Go.Proofs.YtjahpnbijefncaaGreat
set_option maxRecDepth 100000
set_option linter.unusedVariables false
open Go.RowKit
attribute [local go_sem ↓] Go.wp_at_zero Go.wp_at_succ
def TabV (N:Nat) (w:World) (cs:Array Value) (σ:Tb):Prop:=cs.size=100∧∀ v,v<100→∃ ao cap,cs[v]? = some (.slice ao (σ v).length cap)∧IntsAt w ao (σ v)∧(σ v).length≤cap∧(σ v=[]→ao=none∧cap=0)∧∀ a,ao=some a→a.block<N
def TabAt (N:Nat) (w:World) (A:Nat) (σ:Tb):Prop:=∃ cs,w.heap[A]? = some (.cells cs 144 (0,0))∧TabV N w cs σ
theorem TabV.kept {N:Nat} {w w' : World} {cs:Array Value} {σ:Tb} {S:Nat→Prop} (h:TabV N w cs σ) (hk:Kept S w w') (hs:∀ k,k<N→¬ S k):TabV N w' cs σ:=
 ⟨h.1,fun v hv=>by obtain ⟨ao,cap,h1,h2,h3,h4,h5⟩:=h.2 v hv;exact ⟨ao,cap,h1,h2.kept hk (fun a e=>hs _ (h5 a e)),h3,h4,h5⟩⟩
theorem TabV.same {N:Nat} {w w' : World} {cs:Array Value} {σ:Tb} (h:TabV N w cs σ) (hk:Same0 w w'):TabV N w' cs σ:=h.kept hk (fun _ _ f=>f)
theorem TabAt.kept {N:Nat} {w w' : World} {A:Nat} {σ:Tb} {S:Nat→Prop} (h:TabAt N w A σ) (hk:Kept S w w') (hs:∀ k,k<N→¬ S k) (hA:¬ S A):TabAt N w' A σ:=by
 obtain ⟨cs,h1,h2⟩:=h
 exact ⟨cs,hk.at h1 hA,h2.kept hk hs⟩
theorem TabAt.same {N:Nat} {w w' : World} {A:Nat} {σ:Tb} (h:TabAt N w A σ) (hk:Same0 w w'):TabAt N w' A σ:=h.kept hk (fun _ _ f=>f) (fun f=>f)
theorem TabAt.cell {N:Nat} {w:World} {A:Nat} {σ:Tb} (h:TabAt N w A σ) {v:Nat} (hv:v<100):∃ ao cap,w.cell? ⟨A,v,none⟩=some (.slice ao (σ v).length cap)∧w.frozen? ⟨A,v,none⟩=false∧IntsAt w ao (σ v)∧(σ v).length≤cap∧(σ v=[]→ao=none∧cap=0):=by
 obtain ⟨cs,h1,h2,h3⟩:=h
 obtain ⟨ao,cap,g1,g2,g3,g4,_⟩:=h3 v hv
 exact ⟨ao,cap,(cellAt h1 v).trans g1,frozenAt h1 v,g2,g3,g4⟩
theorem TabAt.put {N:Nat} {w:World} {A:Nat} {σ:Tb} (h:TabAt N w A σ) (hA:N≤A) {v:Nat} (hv:v<100) {u:List Int} {a:Addr} {cap:Nat} (hu:IntsAt w (some a) u) (hc:u.length≤cap) (hn:u≠[]) (ha:a.block<N) :
  TabAt N (w.setCell ⟨A,v,none⟩ (.slice (some a) u.length cap)) A (updT σ v u):=by
 obtain ⟨cs,h1,h2,h3⟩:=h
 have k:Kept (fun i=>i=A) w (w.setCell ⟨A,v,none⟩ (.slice (some a) u.length cap)):=Kept.setCell (p:=⟨A,v,none⟩) (Kept.refl (fun i=>i=A) w) (fun _=>rfl) _
 have hne:∀ k,k<N→¬ k=A:=fun k hk e=>by omega
 refine ⟨_,setAt h1 v _,by simpa using h2,fun x hx=>?_⟩
 rw [Array.getElem?_setIfInBounds]
 by_cases e:v=x
 ·subst e
  rw [if_pos rfl,if_pos (by omega),upd_same]
  exact ⟨some a,cap,rfl,hu.kept k (fun b e=>by cases e;exact hne _ ha),hc,fun e=>absurd e hn,fun b e=>by cases e;exact ha⟩
 ·rw [if_neg e,upd_else (fun h=>e h.symm)]
  obtain ⟨ao,c,g1,g2,g3,g4,g5⟩:=h3 x hx
  exact ⟨ao,c,g1,g2.kept k (fun b e=>hne _ (g5 b e)),g3,g4,g5⟩
theorem zeros_table:Tryz.zeroCells144=Array.replicate 100 (.slice none 0 0):=by kernel_rfl
theorem tab_zero (N:Nat) (w:World):TabV N w (Array.replicate 100 (.slice none 0 0)) noT:=
 ⟨by simp,fun v hv=>⟨none,0,by rw [Array.getElem?_replicate,if_pos hv];rfl,.inl rfl,Nat.le_refl _,fun _=>⟨rfl,rfl⟩,fun a e=>by cases e⟩⟩
theorem eqnil (w:World) (a:Option Addr) (n c n' c' : Nat):(binOp .eql 64 (.slice a n c) (.slice none n' c')).run Tryz.prog w=.ok (.bool a.isNone) w:=Lib.run_eql_slice_nil w _ _ a n c n' c' Tryz.underlying64
theorem neqnil (w:World) (a:Option Addr) (n c n' c' : Nat):(binOp .neq 64 (.slice a n c) (.slice none n' c')).run Tryz.prog w=.ok (.bool (!a.isNone)) w:=run_neq_slice_nil_any w _ _ a n c n' c' Tryz.underlying64
set_option maxHeartbeats 2000000 in
theorem equal_any {w:World} {ao bo:Option Addr} {acap bcap:Nat} {xs ys:List Int} (hx:IntsAt w ao xs) (hy:IntsAt w bo ys) (hm:xs.length≤maxLen) :
  Calls Tryz.prog 108 #[.slice ao xs.length acap,.slice bo ys.length bcap] w fun e w' => e=.returned (.bool (sameB xs ys))∧Same0 w w' := by
 unfold maxLen at hm
 by_cases hl:xs.length=ys.length
 ·have hl' : (xs.length:Int)=(ys.length:Int):=by omega
  go_enter Tryz.func108,Tryz.ntmps108
  go_wp2
  go_loopw [13] (fun i wr=>∃ k:Nat,k≤xs.length∧i=.int .i64 (k:Int)∧Hid (xs.take k=ys.take k)∧Same0 w wr) (fun i _=>xs.length-(intOf i).toNat)
  case atStart=>exact ⟨0,Nat.zero_le _,rfl,by simp [Hid],Kept.refl _ _⟩
  case round=>
   obtain ⟨k,hk,rfl,ht,hs⟩:=hrel
   by_cases hlt:k<xs.length
   ·have hlt' : k<ys.length:=by omega
    obtain ⟨ab,ao', rfl,hab,hac⟩:=(hx.same hs).get hlt
    obtain ⟨bb,bo', rfl,hbb,hbc⟩:=(hy.same hs).get hlt'
    have i1:(0:Int)≤(k:Int):=by omega
    have i2:(k:Int)<(xs.length:Int):=by omega
    have i3:(k:Int)<(ys.length:Int):=by omega
    have d1:wr.drew.cell? ⟨ab,ao' + k,none⟩=some (.int .i64 xs[k]):=hac
    have d2:wr.drew.cell? ⟨bb,bo' + k,none⟩=some (.int .i64 ys[k]):=hbc
    by_cases he:xs[k]=ys[k]
    ·have hn:Hid (xs.take (k+1)=ys.take (k+1)):=take_eq_succ ht.out hlt hlt' he
     have he' : (xs[k] == ys[k])=true:=by simpa using he
     go_wp2
     go_quiet (fail)
     go_wp2
     refine ⟨⟨k+1,by omega,by go_num,hn,hs.drewN _⟩,by simp [intOf];omega⟩
    ·have H:Hid (sameB xs ys=false):=by
      show _=_
      simp only [sameB,decide_eq_false_iff_not]
      intro e;subst e;exact he rfl
     have he' : (xs[k] == ys[k])=false:=by simpa using he
     go_wp2
     go_quiet (fail)
     go_wp2
     go_ret
     exact ⟨by rw [H.out];rfl,hs.drewN _⟩
   ·have H:Hid (sameB xs ys=true):=by
     have:=ht.out
     rw [List.take_of_length_le (by omega),List.take_of_length_le (by omega)] at this
     show _=_
     simpa [sameB] using this
    go_wp2
    go_ret
    exact ⟨by rw [H.out];rfl,hs⟩
 ·have hl' : ¬ (xs.length:Int)=(ys.length:Int):=by omega
  have H:Hid (sameB xs ys=false):=same_len hl
  go_enter Tryz.func108,Tryz.ntmps108
  go_wp2
  go_ret
  exact ⟨by rw [H.out];rfl,Kept.refl _ _⟩
def partL (σ:Tb) (n:Int):List Int:=if 0≤n then [] else σ (-n).toNat
set_option maxHeartbeats 1000000 in
theorem part_any {N:Nat} {w:World} {A:Nat} {σ:Tb} (h:TabAt N w A σ) (n:Int) (hn : -99≤n) :
  Calls Tryz.prog 65 #[.pointer (some ⟨A,0,none⟩),.int .i64 n] w fun e w' => ∃ ao cap,e=.returned (.slice ao (partL σ n).length cap)∧IntsAt w ao (partL σ n)∧(partL σ n).length≤cap∧(partL σ n=[]→ao=none∧cap=0)∧w' = w:=by
 by_cases h0:0≤n
 ·have H:Hid (partL σ n=[]):=by show _=_;rw [partL,if_pos h0]
  go_enter Tryz.func65,Tryz.ntmps65
  go_wp2
  go_ret
  refine ⟨none,0,?_,?_,?_,?_,rfl⟩
  all_goals rw [H.out]
  ·rfl
  ·exact .inl rfl
  ·exact Nat.le_refl _
  ·exact fun _=>⟨rfl,rfl⟩
 ·obtain ⟨v,hv⟩:∃ v:Nat,v=(-n).toNat:=⟨_,rfl⟩
  have H:Hid (partL σ n=σ v):=by show _=_;rw [partL,if_neg h0,hv]
  obtain ⟨ao,cap,g1,g2,g3,g4,g5⟩:=h.cell (v:=v) (by omega)
  obtain rfl:n = -(v:Int):=by omega
  have i1:(0:Int)≤(v:Int):=by omega
  have i2:(v:Int)<100:=by omega
  have i3 : - -(v:Int)=(v:Int):=by omega
  have i4:¬ (0:Int) ≤ -(v:Int):=by omega
  clear hv h0 h
  go_enter Tryz.func65,Tryz.ntmps65
  go_wp2
  go_ret
  refine ⟨ao,cap,?_,?_,?_,?_,rfl⟩
  all_goals rw [H.out]
  ·rfl
  ·exact g3
  ·exact g4
  ·exact g5
def Bnd (σ:Tb):Prop:=∀ v,(σ v).length≤2000
theorem part_len {σ:Tb} (hb:Bnd σ) (n:Int):(partL σ n).length≤2000:=by
 unfold partL
 split
 ·simp
 ·exact hb _
theorem inst_part (σ:Tb) (n:Int):(inst σ n).length=max 1 (partL σ n).length:=by
 rw [inst_len,partL]
 split <;> simp
theorem app_take {σ:Tb} {t:List Int} {k:Nat} (h:k<t.length):appT σ (t.take (k+1))=appT σ (t.take k)++inst σ t[k]:=by
 rw [take_one h,app_append,app_cons,app_nil,List.append_nil]
theorem app_le {σ:Tb} (hb:Bnd σ) (t:List Int):(appT σ t).length≤2000 * t.length:=by
 induction t with
 | nil=>simp [appT]
 | cons n t ih=>
  rw [app_cons,List.length_append,inst_part]
  have:=part_len hb n
  simp only [List.length_cons];omega
set_option maxHeartbeats 2000000 in
theorem size_any {N:Nat} {w:World} {A:Nat} {σ:Tb} (h:TabAt N w A σ) (hb:Bnd σ) {ao:Option Addr} {cap:Nat} {t:List Int} (ht:IntsAt w ao t) (hm:t.length≤2000) (hv:∀ x∈t, -99≤x) :
  Calls Tryz.prog 64 #[.pointer (some ⟨A,0,none⟩),.slice ao t.length cap] w fun e w' => e=.returned (.int .i64 ((appT σ t).length:Int))∧w' = w:=by
 go_enter Tryz.func64,Tryz.ntmps64
 go_wp2
 go_loop [5,10] (fun s i=>∃ k:Nat,k≤t.length∧i=.int .i64 (k:Int)∧s=.int .i64 ((appT σ (t.take k)).length:Int)) (fun _ i=>t.length-(intOf i).toNat)
 case atStart=>exact ⟨0,Nat.zero_le _,rfl,by simp [appT]⟩
 case round=>
  obtain ⟨k,hk,rfl,rfl⟩:=hrel
  by_cases hlt:k<t.length
  ·obtain ⟨tb,off,rfl,htb,hc⟩:=ht.get hlt
   have i1:(0:Int)≤(k:Int):=by omega
   have i2:(k:Int)<(t.length:Int):=by omega
   have c:=part_any h t[k] (hv _ (List.getElem_mem hlt))
   have e1:((appT σ (t.take (k+1))).length:Int)=((appT σ (t.take k)).length:Int)+max 1 ((partL σ t[k]).length:Int):=by
    rw [app_take hlt,List.length_append,inst_part];omega
   have E1:Hid (((appT σ (t.take (k+1))).length:Int)=((appT σ (t.take k)).length:Int)+max 1 ((partL σ t[k]).length:Int)):=e1
   have b1:=app_le hb (t.take k)
   have b2:(t.take k).length≤2000:=by rw [List.length_take];omega
   have b3:=part_len hb t[k]
   have b4:(appT σ (t.take k)).length≤4000000:=by omega
   clear e1 b1 b2
   generalize (appT σ (t.take k)).length=M at *
   go_wp2_with (first | (go_at_call 65;refine c.mono ?_;rintro e w' ⟨po,pc,rfl,q1,q2,q3,rfl⟩))
   all_goals
    refine ⟨⟨k+1,by omega,by go_num,?_⟩,by simp [intOf];omega⟩
    rw [E1.out]
    first | rfl | (congr 1;omega) | trace_state
  ·obtain rfl:k=t.length:=by omega
   have e1:t.take t.length=t:=List.take_length
   rw [e1]
   clear e1
   go_wp2
   go_ret
   exact ⟨rfl,rfl⟩
set_option maxHeartbeats 2000000 in
theorem behind_any {n b:Nat} {w:World} {L:List Sym} (h:Sg n w b L) {ao:Option Addr} {cap:Nat} {t:List Int} (ht:IntsAt w ao t) (hm:t.length≤2000) {p m:Nat} (hp:p≤t.length) (hs:scan L 1 (t.drop p)=some m) :
  Calls Tryz.prog 107 #[.pointer (some ⟨b,0,none⟩),.slice ao t.length cap,.int .i64 (p:Int)] w fun e w' => e=.returned (.int .i64 ((p+m:Nat):Int))∧Same0 w w' := by
 have ha:=h.2
 go_enter Tryz.func107,Tryz.ntmps107
 go_wp2
 go_loopw [2,7] (fun at' la wr=>∃ q k:Nat,p≤q∧q≤t.length∧at' = .int .i64 (q:Int)∧la=.int .i64 (k:Int)∧k≤6 * (q-p)+1∧Hid ((scan L k (t.drop q)).map (q + ·)=some (p+m))∧Same0 w wr) (fun at' _ _=>t.length+1-(intOf at').toNat)
 case atStart=>exact ⟨p,1,Nat.le_refl _,hp,rfl,rfl,by omega,by show _=_;rw [hs];rfl,Kept.refl _ _⟩
 case round=>
  obtain ⟨q,k,h1,h2,rfl,rfl,h3,h4,hk⟩:=hrel
  cases k with
  | zero=>
   have H:Hid (q=p+m):=by
    have:=h4.out
    rw [scan_zero] at this
    simpa [Hid] using this
   go_wp2
   go_ret
   exact ⟨ret_int (by rw [H.out]),hk⟩
  | succ k=>
   by_cases hlt:q<t.length
   ·obtain ⟨tb,off,rfl,htb,hc⟩:=(ht.same hk).get hlt
    obtain ⟨⟨sv,mr,g1,_⟩,_⟩:=h.same hk
    have H5:Hid ((scan L (k+arN L t[q]) (t.drop (q+1))).map (q+1 + ·)=some (p+m)):=by
     have:=h4.out
     rw [List.drop_eq_getElem_cons hlt,scan,Option.map_map] at this
     show _=_
     rw [← this]
     congr 1
     funext x
     simp;omega
    have hle:=arN_le ha t[q]
    have i1:(0:Int)≤(q:Int):=by omega
    have i2:(q:Int)<(t.length:Int):=by omega
    clear h4
    by_cases hx:t[q]<0∨(L.length:Int)≤t[q]
    ·have e1:=ar_no (L:=L) hx
     rw [e1] at H5
     have c:=at_no g1 t[q] hx
     clear hle e1
     go_wp2_with (first | (go_at_call 81;refine c.mono ?_;rintro e w' ⟨rfl,hk1⟩))
     exact ⟨⟨q+1,k,by omega,by omega,by go_num,by go_num,by omega,H5,(hk.trans' hk1).alloc _⟩,by simp [intOf];omega⟩
    ·obtain ⟨i,hi'⟩:∃ i:Nat,t[q]=(i:Int):=⟨t[q].toNat,by omega⟩
     have hi:i<L.length:=by omega
     have e1:=ar_of ha hi
     rw [hi'] at H5 hle hc
     generalize arN L (i:Int)=a at *
     have c:=at_yes g1 i hi
     have e2:Hid (L[i].ar=(a:Int)):=e1.symm
     have E2:=e2.out
     rw [E2] at c
     clear e1 E2 hx hi' e2
     go_wp2_with (first | (go_at_call 81;refine c.mono ?_;rintro e w' ⟨rfl,hk1⟩))
     exact ⟨⟨q+1,k+a,by omega,by omega,by go_num,by congr 1;omega,by omega,H5,(hk.trans' hk1).alloc _⟩,by simp [intOf];omega⟩
   ·exfalso
    have:=h4.out
    rw [List.drop_eq_nil_of_le (by omega)] at this
    simp [scan] at this
set_option maxHeartbeats 2000000 in
theorem clone_term {w:World} {ao:Option Addr} {cap:Nat} {xs:List Int} (hx:IntsAt w ao xs) (hn:0<xs.length) (hsz:xs.length≤2000) :
  Calls Tryz.prog 94 #[.slice ao xs.length cap] w fun e w' => ∃ v,e=.returned v∧Row w.heap.size w' v xs∧Same0 w w' := by
 obtain ⟨xb,off,rfl,hxb,hc⟩:=hx.get hn
 have k0:Same0 w (w.alloc (.cells #[] 3)):=(Kept.refl _ w).alloc _
 have r0:Row w.heap.size (w.alloc (.cells #[] 3)) (.slice (some ⟨w.heap.size,0,none⟩) 0 0) []:=row_empty w _ (Nat.le_refl _) rfl
 have cI:=hx.same k0
 have z0:=k0.size
 have hnil:=eqnil
 go_enter Tryz.func94,Tryz.ntmps94
 go_wp2_with (first | (at_builtin;refine wpList_more rfl _ _ 64 rfl Tryz.underlying64 w.heap.size [] _ rfl r0 xs _ _ _ rfl rfl cI z0 (by simp;omega) ?_;intro v' w4 hr4 hk4))
 go_ret
 exact ⟨_,rfl,by simpa using hr4,k0.onto r0 hk4⟩
structure PassAt (N:Nat) (w:World) (aB tB sB A b:Nat) (L:List Sym) (ao:Option Addr) (cap:Nat) (u:List Int) (k:Nat) (σ:Tb):Prop where
 a0:w.heap[aB]? = some (.cells #[.int .i64 (k:Int)] 3 (0,0))
 t0:w.heap[tB]? = some (.cells #[.slice ao u.length cap] 64 (0,0))
 s0:w.heap[sB]? = some (.cells #[.pointer (some ⟨b,0,none⟩)] 25 (0,0))
 tab:TabAt N w A σ
 ints:IntsAt w ao u
 ub:∀ a,ao=some a→a.block<N
 uc:u.length≤cap
 um:u.length≤2000
 sg:Sg N w b L
 ne:N≤aB∧N≤tB∧N≤sB∧N≤A∧aB≠tB∧aB≠sB∧aB≠A∧tB≠A∧sB≠A
theorem PassAt.same {N:Nat} {w w' : World} {aB tB sB A b:Nat} {L:List Sym} {ao:Option Addr} {cap:Nat} {u:List Int} {k:Nat} {σ:Tb} (h:PassAt N w aB tB sB A b L ao cap u k σ) (hk:Same0 w w'):PassAt N w' aB tB sB A b L ao cap u k σ:=
 ⟨hk.at0 h.a0,hk.at0 h.t0,hk.at0 h.s0,h.tab.same hk,h.ints.same hk,h.ub,h.uc,h.um,h.sg.same hk,h.ne⟩
theorem PassAt.cells {N:Nat} {w:World} {aB tB sB A b:Nat} {L:List Sym} {ao:Option Addr} {cap:Nat} {u:List Int} {k:Nat} {σ:Tb} (h:PassAt N w aB tB sB A b L ao cap u k σ) :
  w.cell? ⟨aB,0,none⟩=some (.int .i64 (k:Int))∧w.frozen? ⟨aB,0,none⟩=false∧w.cell? ⟨tB,0,none⟩=some (.slice ao u.length cap)∧w.cell? ⟨sB,0,none⟩=some (.pointer (some ⟨b,0,none⟩)):=
 ⟨cellAt h.a0 0,frozenAt h.a0 0,cellAt h.t0 0,cellAt h.s0 0⟩
theorem PassAt.go {N:Nat} {w:World} {aB tB sB A b:Nat} {L:List Sym} {ao:Option Addr} {cap:Nat} {u:List Int} {k:Nat} {σ:Tb} (h:PassAt N w aB tB sB A b L ao cap u k σ) (k' : Nat):PassAt N (w.setCell ⟨aB,0,none⟩ (.int .i64 (k' : Int))) aB tB sB A b L ao cap u k' σ:=by
 have hk:Kept (fun i=>i=aB) w (w.setCell ⟨aB,0,none⟩ (.int .i64 (k' : Int))):=Kept.setCell (p:=⟨aB,0,none⟩) (Kept.refl (fun i=>i=aB) w) (fun _=>rfl) _
 obtain ⟨n1,n2,n3,n4,n5,n6,n7,n8,n9⟩:=h.ne
 have hlo:∀ i,i<N→¬ i=aB:=fun i hi e=>by omega
 exact ⟨by rw [setAt h.a0];rfl,hk.at h.t0 (fun e=>n5 e.symm),hk.at h.s0 (fun e=>n6 e.symm),h.tab.kept hk hlo (fun e=>n7 e.symm),h.ints.kept hk (fun a e=>hlo _ (h.ub a e)),h.ub,h.uc,h.um,h.sg.kept hk hlo,h.ne⟩
theorem PassAt.put {N:Nat} {w:World} {aB tB sB A b:Nat} {L:List Sym} {ao:Option Addr} {cap:Nat} {u:List Int} {k:Nat} {σ:Tb} (h:PassAt N w aB tB sB A b L ao cap u k σ) {v:Nat} (hv:v<100) {x:List Int} {a:Addr} {c:Nat} (hu:IntsAt w (some a) x) (hc:x.length≤c) (hn:x≠[]) (ha:a.block<N) :
  PassAt N (w.setCell ⟨A,v,none⟩ (.slice (some a) x.length c)) aB tB sB A b L ao cap u k (updT σ v x):=by
 have hk:Kept (fun i=>i=A) w (w.setCell ⟨A,v,none⟩ (.slice (some a) x.length c)):=Kept.setCell (p:=⟨A,v,none⟩) (Kept.refl (fun i=>i=A) w) (fun _=>rfl) _
 obtain ⟨n1,n2,n3,n4,n5,n6,n7,n8,n9⟩:=h.ne
 have hlo:∀ i,i<N→¬ i=A:=fun i hi e=>by omega
 exact ⟨hk.at h.a0 n7,hk.at h.t0 n8,hk.at h.s0 n9,h.tab.put n4 hv hu hc hn ha,h.ints.kept hk (fun a e=>hlo _ (h.ub a e)),h.ub,h.uc,h.um,h.sg.kept hk hlo,h.ne⟩
theorem Kept.two {a A:Nat} {w w1:World} (h:Kept (fun i=>i=a) w w1):Kept (fun i=>i=a∨i=A) w w1:=h.mono (fun _ _ e=>.inl e)
set_option maxHeartbeats 2000000 in
theorem pass_sym {N:Nat} {w:World} {aB tB sB A b:Nat} {L:List Sym} {ao:Option Addr} {cap:Nat} {u:List Int} {k:Nat} {σ:Tb} (h:PassAt N w aB tB sB A b L ao cap u k σ) (n:Int) (hn:0≤n) (hk:k<u.length) :
  Calls Tryz.prog 106 #[.int .i64 n,.pointer (some ⟨aB,0,none⟩),.pointer (some ⟨tB,0,none⟩),.pointer (some ⟨sB,0,none⟩),.pointer (some ⟨A,0,none⟩)] w fun e w' => e=.returned (.bool (decide (u[k]=n)))∧PassAt N w' aB tB sB A b L ao cap u (k+1) σ∧Kept (fun i=>i=aB∨i=A) w w' := by
 obtain ⟨c1,c2,c3,c4⟩:=h.cells
 have h1:=h.go (k+1)
 obtain ⟨d1,d2,d3,d4⟩:=h1.cells
 obtain ⟨tb,off,rfl,htb,hc⟩:=h1.ints.get hk
 have hm:=h.um
 have i1:(0:Int)≤(k:Int):=by omega
 have i2:(k:Int)<(u.length:Int):=by omega
 have e1:((k+1:Nat):Int)=(k:Int)+1:=by omega
 rw [e1] at d1 d2 d3 d4 hc
 have hk1:Hid (Kept (fun i=>i=aB∨i=A) w (w.setCell ⟨aB,0,none⟩ (.int .i64 ((k:Int)+1)))):=(Kept.setCell (p:=⟨aB,0,none⟩) (Kept.refl (fun i=>i=aB) w) (fun _=>rfl) _).two
 have H1:Hid (PassAt N (w.setCell ⟨aB,0,none⟩ (.int .i64 ((k:Int)+1))) aB tB sB A b L (some ⟨tb,off,none⟩) cap u (k+1) σ):=by rw [e1] at h1;exact h1
 clear h h1 e1
 go_enter Tryz.func106,Tryz.ntmps106
 go_wp2
 go_ret
 exact ⟨by congr 1,H1.out,hk1.out⟩
theorem scan_end {L:List Sym} {u:List Int} {k m:Nat} (h:scan L 1 (u.drop k)=some m) (hk:k≤u.length):0<m∧k+m≤u.length∧headT L (u.drop k)=(u.take (k+m)).drop k∧((u.take (k+m)).drop k).length=m:=by
 have h1:=scan_pos (k:=0) h
 have h2:=(scan_need h).1
 rw [List.length_drop] at h2
 refine ⟨h1,by omega,?_,by rw [List.length_drop,List.length_take];omega⟩
 rw [headT,h,List.drop_take,Option.getD_some,show k+m-k=m by omega]
set_option maxHeartbeats 4000000 in
theorem pass_new {N:Nat} {w:World} {aB tB sB A b:Nat} {L:List Sym} {ao:Option Addr} {cap:Nat} {u:List Int} {k m v:Nat} {σ:Tb} (h:PassAt N w aB tB sB A b L ao cap u k σ) (h1v:1≤v) (hv:v≤99) (hk:k≤u.length) (hs:scan L 1 (u.drop k)=some m) (hσ:σ v=[]) :
  Calls Tryz.prog 106 #[.int .i64 (-(v:Int)),.pointer (some ⟨aB,0,none⟩),.pointer (some ⟨tB,0,none⟩),.pointer (some ⟨sB,0,none⟩),.pointer (some ⟨A,0,none⟩)] w fun e w' => e=.returned (.bool true)∧PassAt N w' aB tB sB A b L ao cap u (k+m) (updT σ v (headT L (u.drop k)))∧Kept (fun i=>i=aB∨i=A) w w' := by
 obtain ⟨c1,c2,c3,c4⟩:=h.cells
 obtain ⟨m1,m2,m3,m4⟩:=scan_end hs hk
 have cb:=behind_any (cap:=cap) h.sg h.ints h.um hk hs
 obtain ⟨E,hE⟩:∃ E,E=k+m:=⟨_,rfl⟩
 rw [← hE] at cb m2 m3 m4 ⊢
 obtain ⟨tb,off,rfl,htb,hc⟩:=h.ints.get (i:=k) (by omega)
 have hub:=h.ub _ rfl
 have hcap:=h.uc
 have hum:=h.um
 have hne:=h.ne
 have hx:((u.take E).drop k)≠[]:=by intro e;rw [e] at m4;simp at m4;omega
 have hlen:((u.take E).drop k).length=E-k:=by omega
 have W1:Hid (∀ w1,Same0 w w1→PassAt N (w1.setCell ⟨aB,0,none⟩ (.int .i64 (E:Int))) aB tB sB A b L (some ⟨tb,off,none⟩) cap u E σ):=fun w1 hk1=>(h.same hk1).go E
 have W2:Hid (∀ w1,Same0 w w1→PassAt N ((w1.setCell ⟨aB,0,none⟩ (.int .i64 (E:Int))).setCell ⟨A,v,none⟩ (.slice (some ⟨tb,off+k,none⟩) (E-k) (cap-k))) aB tB sB A b L (some ⟨tb,off,none⟩) cap u E (updT σ v ((u.take E).drop k))):=fun w1 hk1=>by
  have q:=(h.same hk1).go E
  have:=q.put (v:=v) (by omega) (q.ints.cut k E) (c:=cap-k) (by omega) hx hub
  rwa [hlen] at this
 have WK:Hid (∀ w1,Same0 w w1→Kept (fun i=>i=aB∨i=A) w ((w1.setCell ⟨aB,0,none⟩ (.int .i64 (E:Int))).setCell ⟨A,v,none⟩ (.slice (some ⟨tb,off+k,none⟩) (E-k) (cap-k)))):=fun w1 hk1=>
  ((hk1.mono (S' := fun i=>i=aB∨i=A) (fun _ _ f=>f.elim)).setCell (p:=⟨aB,0,none⟩) (fun _=>.inl rfl) _).setCell (p:=⟨A,v,none⟩) (fun _=>.inr rfl) _
 have WW:Hid (∀ w1,Same0 w w1→(w1.setCell ⟨aB,0,none⟩ (.int .i64 (E:Int))).cell? ⟨aB,0,none⟩=some (.int .i64 (E:Int))∧w1.cell? ⟨aB,0,none⟩=some (.int .i64 (k:Int))∧w1.frozen? ⟨aB,0,none⟩=false∧(w1.setCell ⟨aB,0,none⟩ (.int .i64 (E:Int))).cell? ⟨tB,0,none⟩=some (.slice (some ⟨tb,off,none⟩) u.length cap)∧(w1.setCell ⟨aB,0,none⟩ (.int .i64 (E:Int))).cell? ⟨A,v,none⟩=some (.slice none 0 0)∧(w1.setCell ⟨aB,0,none⟩ (.int .i64 (E:Int))).frozen? ⟨A,v,none⟩=false ∧
   ((w1.setCell ⟨aB,0,none⟩ (.int .i64 (E:Int))).setCell ⟨A,v,none⟩ (.slice (some ⟨tb,off+k,none⟩) (E-k) (cap-k))).cell? ⟨A,v,none⟩=some (.slice (some ⟨tb,off+k,none⟩) (E-k) (cap-k)) ∧
   Calls Tryz.prog 108 #[.slice (some ⟨tb,off+k,none⟩) (E-k) (cap-k),.slice (some ⟨tb,off+k,none⟩) (E-k) (cap-k)] ((w1.setCell ⟨aB,0,none⟩ (.int .i64 (E:Int))).setCell ⟨A,v,none⟩ (.slice (some ⟨tb,off+k,none⟩) (E-k) (cap-k))) fun e w' => e=.returned (.bool true)∧Same0 ((w1.setCell ⟨aB,0,none⟩ (.int .i64 (E:Int))).setCell ⟨A,v,none⟩ (.slice (some ⟨tb,off+k,none⟩) (E-k) (cap-k))) w'):=fun w1 hk1=>by
  have p0:=(h.same hk1).cells
  have p1:=W1.out w1 hk1
  have p2:=W2.out w1 hk1
  obtain ⟨xo,xc,g1,g2,_,_,g3⟩:=p1.tab.cell (v:=v) (by omega)
  obtain ⟨rfl,rfl⟩:=g3 hσ
  rw [hσ] at g1
  have q:=p2.ints.cut k E
  have ce:=equal_any (acap:=cap-k) (bcap:=cap-k) q q (by rw [hlen];unfold maxLen;omega)
  rw [hlen] at ce
  simp only [sameB,decide_true] at ce
  obtain ⟨cs,y1,y2,y3⟩:=p1.tab
  refine ⟨p1.cells.1,p0.1,p0.2.1,p1.cells.2.2.1,g1,g2,?_,ce⟩
  rw [cellAt (setAt y1 v _) v,Array.getElem?_setIfInBounds,if_pos rfl,if_pos (by omega)]
 have HX:Hid (headT L (u.drop k)=(u.take E).drop k):=m3
 have i1:(0:Int)≤(k:Int):=by omega
 have i2:(k:Int)≤(E:Int):=by omega
 have i3:(E:Int)≤(cap:Int):=by omega
 have i4:¬ cap=k:=by omega
 have i5:(0:Int)≤(v:Int):=by omega
 have i6:(v:Int)<100:=by omega
 have i7 : - -(v:Int)=(v:Int):=by omega
 have i8:¬ v=0:=by omega
 have hnil:=eqnil
 have HL:Hid (((u.take E).drop k).length=E-k):=hlen
 have HS:Hid (σ v=[]):=hσ
 have HM:Hid (E-k≤2000):=by show _≤_;omega
 clear h hE m3 m4 hc hlen hσ hx hum
 go_enter Tryz.func106,Tryz.ntmps106
 go_wp2_with (first | (go_at_call 107;refine cb.mono ?_;rintro e w1 ⟨rfl,hk1⟩;obtain ⟨d1,d2,d3,d4,e1,e2,f1,ceq⟩:=WW.out w1 hk1) | (go_at_call 108;refine ceq.mono ?_;rintro e w4 ⟨rfl,hk4⟩))
 go_ret
 refine ⟨rfl,?_,?_⟩
 ·rw [HX.out];exact (W2.out w1 hk1).same hk4
 ·exact (WK.out w1 hk1).trans hk4 (fun _ _ f=>f.elim)
set_option maxHeartbeats 4000000 in
theorem pass_old {N:Nat} {w:World} {aB tB sB A b:Nat} {L:List Sym} {ao:Option Addr} {cap:Nat} {u:List Int} {k m v:Nat} {σ:Tb} (h:PassAt N w aB tB sB A b L ao cap u k σ) (h1v:1≤v) (hv:v≤99) (hk:k≤u.length) (hs:scan L 1 (u.drop k)=some m) (hσ:σ v≠[]) (hb:(σ v).length≤2000) :
  Calls Tryz.prog 106 #[.int .i64 (-(v:Int)),.pointer (some ⟨aB,0,none⟩),.pointer (some ⟨tB,0,none⟩),.pointer (some ⟨sB,0,none⟩),.pointer (some ⟨A,0,none⟩)] w fun e w' => e=.returned (.bool (sameB (σ v) (headT L (u.drop k))))∧PassAt N w' aB tB sB A b L ao cap u (k+m) σ∧Kept (fun i=>i=aB∨i=A) w w' := by
 obtain ⟨c1,c2,c3,c4⟩:=h.cells
 obtain ⟨m1,m2,m3,m4⟩:=scan_end hs hk
 have cb:=behind_any (cap:=cap) h.sg h.ints h.um hk hs
 obtain ⟨E,hE⟩:∃ E,E=k+m:=⟨_,rfl⟩
 rw [← hE] at cb m2 m3 m4 ⊢
 obtain ⟨tb,off,rfl,htb,hc⟩:=h.ints.get (i:=k) (by omega)
 have hcap:=h.uc
 have hlen:((u.take E).drop k).length=E-k:=by omega
 obtain ⟨⟨pb,po⟩,pc,hp⟩:∃ (z:Nat × Nat) (pc:Nat),w.cell? ⟨A,v,none⟩=some (.slice (some ⟨z.1,z.2,none⟩) (σ v).length pc):=by
  obtain ⟨xo,xc,g1,g2,g3,_,_⟩:=h.tab.cell (v:=v) (by omega)
  obtain ⟨pb,po,rfl,_⟩:=g3.get (i:=0) (List.length_pos_iff.2 hσ)
  exact ⟨(pb,po),xc,g1⟩
 simp only at hp
 have W1:Hid (∀ w1,Same0 w w1→PassAt N (w1.setCell ⟨aB,0,none⟩ (.int .i64 (E:Int))) aB tB sB A b L (some ⟨tb,off,none⟩) cap u E σ):=fun w1 hk1=>(h.same hk1).go E
 have WK:Hid (∀ w1,Same0 w w1→Kept (fun i=>i=aB∨i=A) w (w1.setCell ⟨aB,0,none⟩ (.int .i64 (E:Int)))):=fun w1 hk1=>
  ((hk1.mono (S' := fun i=>i=aB∨i=A) (fun _ _ f=>f.elim)).setCell (p:=⟨aB,0,none⟩) (fun _=>.inl rfl) _)
 have WW:Hid (∀ w1,Same0 w w1→(w1.setCell ⟨aB,0,none⟩ (.int .i64 (E:Int))).cell? ⟨aB,0,none⟩=some (.int .i64 (E:Int))∧w1.cell? ⟨aB,0,none⟩=some (.int .i64 (k:Int))∧w1.frozen? ⟨aB,0,none⟩=false∧(w1.setCell ⟨aB,0,none⟩ (.int .i64 (E:Int))).cell? ⟨tB,0,none⟩=some (.slice (some ⟨tb,off,none⟩) u.length cap)∧(w1.setCell ⟨aB,0,none⟩ (.int .i64 (E:Int))).cell? ⟨A,v,none⟩=some (.slice (some ⟨pb,po,none⟩) (σ v).length pc) ∧
   Calls Tryz.prog 108 #[.slice (some ⟨pb,po,none⟩) (σ v).length pc,.slice (some ⟨tb,off+k,none⟩) (E-k) (cap-k)] (w1.setCell ⟨aB,0,none⟩ (.int .i64 (E:Int))) fun e w' => e=.returned (.bool (sameB (σ v) ((u.take E).drop k)))∧Same0 (w1.setCell ⟨aB,0,none⟩ (.int .i64 (E:Int))) w'):=fun w1 hk1=>by
  have p0:=(h.same hk1).cells
  have p1:=W1.out w1 hk1
  obtain ⟨xo,xc,g1,g2,g4,_,g3⟩:=p1.tab.cell (v:=v) (by omega)
  have hp1:w1.cell? ⟨A,v,none⟩=some (.slice (some ⟨pb,po,none⟩) (σ v).length pc):=by
   obtain ⟨cs,y1,_⟩:=h.tab
   exact (hk1.cell (p:=⟨A,v,none⟩) (lt_of_at y1) (fun f=>f)).trans hp
  have hp2:(w1.setCell ⟨aB,0,none⟩ (.int .i64 (E:Int))).cell? ⟨A,v,none⟩=some (.slice (some ⟨pb,po,none⟩) (σ v).length pc):=by
   have kk:Kept (fun i=>i=aB) w1 (w1.setCell ⟨aB,0,none⟩ (.int .i64 (E:Int))):=Kept.setCell (p:=⟨aB,0,none⟩) (Kept.refl (fun i=>i=aB) w1) (fun _=>rfl) _
   obtain ⟨cs,y1,_⟩:=h.tab
   exact (kk.cell (p:=⟨A,v,none⟩) (Nat.lt_of_lt_of_le (lt_of_at y1) hk1.size) (fun e=>h.ne.2.2.2.2.2.2.1 e.symm)).trans hp1
  rw [hp2] at g1
  cases g1
  have q:=p1.ints.cut k E
  have ce:=equal_any (acap:=pc) (bcap:=cap-k) g4 q (by unfold maxLen;omega)
  rw [hlen] at ce
  exact ⟨p1.cells.1,p0.1,p0.2.1,p1.cells.2.2.1,hp2,ce⟩
 have HX:Hid (headT L (u.drop k)=(u.take E).drop k):=m3
 have i1:(0:Int)≤(k:Int):=by omega
 have i2:(k:Int)≤(E:Int):=by omega
 have i3:(E:Int)≤(cap:Int):=by omega
 have i4:¬ cap=k:=by omega
 have i5:(0:Int)≤(v:Int):=by omega
 have i6:(v:Int)<100:=by omega
 have i7 : - -(v:Int)=(v:Int):=by omega
 have i8:¬ v=0:=by omega
 have hnil:=eqnil
 clear h hE m3 m4 hc hlen hσ hp
 go_enter Tryz.func106,Tryz.ntmps106
 go_wp2_with (first | (go_at_call 107;refine cb.mono ?_;rintro e w1 ⟨rfl,hk1⟩;obtain ⟨d1,d2,d3,d4,e1,ceq⟩:=WW.out w1 hk1) | (go_at_call 108;refine ceq.mono ?_;rintro e w4 ⟨rfl,hk4⟩))
 go_ret
 refine ⟨by rw [HX.out];rfl,?_,?_⟩
 ·exact (W1.out w1 hk1).same hk4
 ·exact (WK.out w1 hk1).trans hk4 (fun _ _ f=>f.elim)
theorem Kept.setRow {S:Nat→Prop} {a w:World} (h:Kept S a w) {g:Nat} (hg:g<a.heap.size→S g) (cs:Array Value):Kept S a (w.setRow g cs):=
 h.trans (S' := fun k=>k=g) ⟨rfl,rfl,rfl,by simp [World.setRow],fun k _ hn=>by simp only [World.setRow,Array.getElem?_modify];rw [if_neg (fun e=>hn e.symm)]⟩ (fun i hi e=>by subst e;exact hg hi)
theorem setRow_at {w:World} {g:Nat} {old cs:Array Value} {t:TypeId} {fr:Nat × Nat} (h:w.heap[g]? = some (.cells old t fr)):(w.setRow g cs).heap[g]? = some (.cells cs t fr):=by
 simp [World.setRow,Array.getElem?_modify,h]
theorem info_table:(Tryz.prog.info? 144).map (·.size)=some 100:=by kernel_rfl
theorem run_load_table {w:World} {g:Nat} {cs:Array Value} (hg:w.heap[g]? = some (.cells cs 144 (0,0))) (h:cs.size=100):(loadVar 144 ⟨g,0,none⟩).run Tryz.prog w=.ok (.agg cs) w:=
 run_loadVar_row w g _ _ cs (0,0) _ hg Tryz.underlying144 rfl (by rw [h];exact info_table)
theorem run_store_table {w:World} {g:Nat} {old cs:Array Value} (hg:w.heap[g]? = some (.cells old 144 (0,0))) (ho:old.size=100) (h:cs.size=100) (h1:cs.all (·.oneCell')=true):(storeVar 144 ⟨g,0,none⟩ (.agg cs)).run Tryz.prog w=.ok () (w.setRow g cs):=
 run_storeVar_row w g _ _ old cs hg (by rw [h];exact info_table) (by omega) h1
theorem run_storeCells_table {w:World} {g:Nat} {old cs:Array Value} (hg:w.heap[g]? = some (.cells old 144 (0,0))) (ho:old.size=100) (h:cs.size=100) (h1:cs.all (·.oneCell')=true):(storeCells ⟨g,0,none⟩ cs.toList 0).run Tryz.prog w=.ok () (w.setRow g cs):=by
 have:=run_store_table hg ho h h1
 have hi:=info_table
 cases hq:Tryz.prog.info? 144 with
 | none=>simp [hq] at hi
 | some i=>
  have hs:cs.size=i.size:=by simp [hq] at hi;omega
  simpa [storeVar,sizeOf,typeInfo,hq,Value.cells,hs] using this
theorem run_loadCells_table {w:World} {g:Nat} {cs:Array Value} {t:TypeId} (hg:w.heap[g]? = some (.cells cs t (0,0))) (h:cs.size=100):(loadCellsFrom ⟨g,0,none⟩ 0 100 #[]).run Tryz.prog w=.ok cs w:=by
 have:=run_loadCells_list (P:=Tryz.prog) w ⟨g,0,none⟩ cs.toList (fun j v hv=>by
  have hadd:(⟨g,0,none⟩:Addr).add j=⟨g,j,none⟩:=by unfold Addr.add;split <;> simp_all
  rw [hadd,cellAt hg j]
  simpa using hv)
 simpa [loadCells,h] using this
theorem TabV.one {N:Nat} {w:World} {cs:Array Value} {σ:Tb} (h:TabV N w cs σ):cs.all (·.oneCell')=true:=by
 rw [Array.all_eq_true]
 intro i hi
 obtain ⟨ao,cap,h1,_⟩:=h.2 i (by have:=h.1;omega)
 rw [Array.getElem?_eq_getElem hi] at h1
 simp only [Option.some.injEq] at h1
 rw [h1];rfl
structure WalkAt (Z:Array Value) (w wr:World) (b:Nat) (L:List Sym) (po:Option Addr) (p:List Int) (ao:Option Addr) (cap:Nat) (u:List Int) (i k:Nat) (σ:Tb):Prop where
 pass:PassAt w.heap.size wr (w.heap.size+1+1+1+1) (w.heap.size+1) w.heap.size (w.heap.size+1+1+1) b L ao cap u k σ
 res:wr.heap[w.heap.size+1+1]? = some (.cells Z 144 (0,0))
 pat:IntsAt wr po p
 mw:Proofs.YtjahpnbijefncaaGreat.mw L p u noT=Proofs.YtjahpnbijefncaaGreat.mw L (p.drop i) (u.drop k) σ
 even:Even L (p.drop i) (u.drop k)
 kle:k≤u.length
 bnd:Bnd σ
 kept:Kept (From w.heap.size) w wr
theorem walk_start {Z:Array Value} (hZ:Z=Array.replicate 100 (.slice none 0 0)) {b:Nat} {w:World} {L:List Sym} (h:Sg w.heap.size w b L) {po ao:Option Addr} {pcap cap:Nat} {p u:List Int} (hp:IntsAt w po p) (hu:IntsAt w ao u) (hum:u.length≤2000) (huc:u.length≤cap) (he:Even L p u) (hpn:0<u.length) :
  WalkAt Z w (((((w.alloc (.cells #[.pointer (some ⟨b,0,none⟩)] 25)).alloc (.cells #[.slice ao u.length cap] 64)).alloc (.cells Z 144)).alloc (.cells Z 144)).alloc (.cells #[.int .i64 0] 3)) b L po p ao cap u 0 0 noT:=by
 obtain ⟨w1,e1⟩:∃ w1,w1=w.alloc (.cells #[.pointer (some ⟨b,0,none⟩)] 25):=⟨_,rfl⟩
 obtain ⟨w2,e2⟩:∃ w2,w2=w1.alloc (.cells #[.slice ao u.length cap] 64):=⟨_,rfl⟩
 obtain ⟨w3,e3⟩:∃ w3,w3=w2.alloc (.cells Z 144):=⟨_,rfl⟩
 obtain ⟨w4,e4⟩:∃ w4,w4=w3.alloc (.cells Z 144):=⟨_,rfl⟩
 obtain ⟨w5,e5⟩:∃ w5,w5=w4.alloc (.cells #[.int .i64 0] 3):=⟨_,rfl⟩
 rw [← e1,← e2,← e3,← e4,← e5]
 have z1:w1.heap.size=w.heap.size+1:=by rw [e1,World.size_alloc]
 have z2:w2.heap.size=w.heap.size+1+1:=by rw [e2,World.size_alloc,z1]
 have z3:w3.heap.size=w.heap.size+1+1+1:=by rw [e3,World.size_alloc,z2]
 have z4:w4.heap.size=w.heap.size+1+1+1+1:=by rw [e4,World.size_alloc,z3]
 have k1:Same0 w w1:=by rw [e1];exact (Kept.refl _ w).alloc _
 have k2:Same0 w1 w2:=by rw [e2];exact (Kept.refl _ w1).alloc _
 have k3:Same0 w2 w3:=by rw [e3];exact (Kept.refl _ w2).alloc _
 have k4:Same0 w3 w4:=by rw [e4];exact (Kept.refl _ w3).alloc _
 have k5:Same0 w4 w5:=by rw [e5];exact (Kept.refl _ w4).alloc _
 have K:Same0 w w5:=(((k1.trans' k2).trans' k3).trans' k4).trans' k5
 have b1:w1.heap[w.heap.size]? = some (.cells #[.pointer (some ⟨b,0,none⟩)] 25 (0,0)):=by rw [e1];exact heap_alloc_new _ _
 have b2:w2.heap[w.heap.size+1]? = some (.cells #[.slice ao u.length cap] 64 (0,0)):=by rw [← z1,e2];exact heap_alloc_new _ _
 have b3:w3.heap[w.heap.size+1+1]? = some (.cells Z 144 (0,0)):=by rw [← z2,e3];exact heap_alloc_new _ _
 have b4:w4.heap[w.heap.size+1+1+1]? = some (.cells Z 144 (0,0)):=by rw [← z3,e4];exact heap_alloc_new _ _
 have b5:w5.heap[w.heap.size+1+1+1+1]? = some (.cells #[.int .i64 0] 3 (0,0)):=by rw [← z4,e5];exact heap_alloc_new _ _
 refine ⟨⟨b5,((k3.trans' k4).trans' k5).at0 b2,(((k2.trans' k3).trans' k4).trans' k5).at0 b1,⟨_,k5.at0 b4,hZ ▸ tab_zero _ _⟩,hu.same K,?_,huc,hum,h.same K,by omega,by omega,by omega,by omega,by omega,by omega,by omega,by omega,by omega⟩,(k4.trans' k5).at0 b3,hp.same K,rfl,he,by omega,fun v=>by simp [noT],Kept.mono K (fun _ _ f=>f.elim)⟩
 intro a e
 subst e
 obtain ⟨b', off,e,hlt,_⟩:=hu.get hpn
 cases e;exact hlt
theorem WalkAt.next {Z:Array Value} {w wr w' : World} {b:Nat} {L:List Sym} {po:Option Addr} {p:List Int} {ao:Option Addr} {cap:Nat} {u:List Int} {i k k' : Nat} {σ σ' : Tb} (h:WalkAt Z w wr b L po p ao cap u i k σ) (hpo:∀ a,po=some a→p=[]∨a.block<w.heap.size)
  (h1:PassAt w.heap.size w' (w.heap.size+1+1+1+1) (w.heap.size+1) w.heap.size (w.heap.size+1+1+1) b L ao cap u k' σ') (h2:Kept (fun i=>i=w.heap.size+1+1+1+1∨i=w.heap.size+1+1+1) wr w')
  (h3:Proofs.YtjahpnbijefncaaGreat.mw L (p.drop i) (u.drop k) σ=Proofs.YtjahpnbijefncaaGreat.mw L (p.drop (i+1)) (u.drop k') σ') (h4:Even L (p.drop (i+1)) (u.drop k')) (h5:k' ≤ u.length) (h6:Bnd σ'):WalkAt Z w w' b L po p ao cap u (i+1) k' σ' := by
 refine ⟨h1,h2.at h.res (by omega),?_,h.mw.trans h3,h4,h5,h6,h.kept.trans h2 (fun i hi e=>by rcases e with e | e <;> omega)⟩
 rcases h.pat with e | ⟨b', off,e,hlt,hc⟩
 ·exact .inl e
 ·subst e
  rcases hpo _ rfl with e | e
  ·exact .inl e
  ·exact IntsAt.kept (.inr ⟨b', off,rfl,hlt,hc⟩) h2 (fun a ea=>by cases ea;rintro (f | f) <;> (simp only at f e;omega))
theorem bnd_upd {σ:Tb} (h:Bnd σ) {v:Nat} {x:List Int} (hx:x.length≤2000):Bnd (updT σ v x):=fun y=>by
 unfold updT
 split
 ·exact hx
 ·exact h y
theorem walk_step {Z:Array Value} {w wr:World} {b:Nat} {L:List Sym} {po:Option Addr} {p:List Int} {ao:Option Addr} {cap:Nat} {u:List Int} {i k:Nat} {σ:Tb} (hW:WalkAt Z w wr b L po p ao cap u i k σ) (hpo:∀ a,po=some a→p=[]∨a.block<w.heap.size) (hlt:i<p.length) (hv : -99≤p[i]) :
  (∃ k' σ', Calls Tryz.prog 106 #[.int .i64 p[i],.pointer (some ⟨w.heap.size+1+1+1+1,0,none⟩),.pointer (some ⟨w.heap.size+1,0,none⟩),.pointer (some ⟨w.heap.size,0,none⟩),.pointer (some ⟨w.heap.size+1+1+1,0,none⟩)] wr fun e w' => e=.returned (.bool true)∧WalkAt Z w w' b L po p ao cap u (i+1) k' σ') ∨
  (mw L p u noT=none∧Calls Tryz.prog 106 #[.int .i64 p[i],.pointer (some ⟨w.heap.size+1+1+1+1,0,none⟩),.pointer (some ⟨w.heap.size+1,0,none⟩),.pointer (some ⟨w.heap.size,0,none⟩),.pointer (some ⟨w.heap.size+1+1+1,0,none⟩)] wr fun e w' => e=.returned (.bool false)∧w'.heap[w.heap.size+1+1]? = some (.cells Z 144 (0,0))∧Same0 w w'):=by
 have hd:p.drop i=p[i] :: p.drop (i+1):=List.drop_eq_getElem_cons hlt
 have hev:=hW.even
 rw [hd] at hev
 obtain ⟨x,ts', hx,q1,q2⟩:=hev.cons
 have hku:k<u.length:=by
  have:=congrArg List.length hx
  simp at this;omega
 have hum:=hW.pass.um
 have hx2:u.drop k=u[k] :: u.drop (k+1):=List.drop_eq_getElem_cons hku
 have bad:∀ w', Kept (fun i=>i=w.heap.size+1+1+1+1∨i=w.heap.size+1+1+1) wr w' → w'.heap[w.heap.size+1+1]? = some (.cells Z 144 (0,0))∧Same0 w w' := fun w' g2=>⟨g2.at hW.res (by omega),from_below (hW.kept.trans g2 (fun i hi e=>by rcases e with e | e <;> omega))⟩
 by_cases hn:0≤p[i]
 ·have c:=pass_sym hW.pass p[i] hn hku
  by_cases hq:u[k]=p[i]
  ·left
   rw [hx2] at hx
   simp only [List.cons.injEq] at hx
   refine ⟨k+1,σ,c.mono ?_⟩
   rintro e w' ⟨rfl,g1,g2⟩
   exact ⟨by simp [hq],hW.next hpo g1 g2 (by rw [hd,hx2,mw_sym hn,if_pos hq]) (by rw [hx.2];exact q1 hn (by rw [← hx.1];exact hq)) (by omega) hW.bnd⟩
  ·right
   refine ⟨by rw [hW.mw,hd,hx2,mw_sym hn,if_neg hq],c.mono ?_⟩
   rintro e w' ⟨rfl,g1,g2⟩
   exact ⟨by simp [hq],bad w' g2⟩
 ·obtain ⟨m,g1,g2,g3,g4,g5,g6⟩:=q2 hn
  rw [List.length_drop] at g3
  rw [List.drop_drop] at g6
  obtain ⟨v,hvv⟩:∃ v:Nat,v=(-p[i]).toNat:=⟨_,rfl⟩
  have hpv:p[i] = -(v:Int):=by omega
  by_cases hs:σ v=[]
  ·left
   have c:=pass_new hW.pass (v:=v) (by omega) (by omega) (by omega) g1 hs
   rw [← hpv] at c
   refine ⟨k+m,updT σ v (headT L (u.drop k)),c.mono ?_⟩
   rintro e w' ⟨rfl,y1,y2⟩
   refine ⟨rfl,hW.next hpo y1 y2 ?_ g6 (by omega) (bnd_upd hW.bnd (by omega))⟩
   rw [hd,mw_new hn (by rw [← hvv];exact hs),g5,List.drop_drop,← hvv]
  ·have c:=pass_old hW.pass (v:=v) (by omega) (by omega) (by omega) g1 hs (hW.bnd v)
   rw [← hpv] at c
   by_cases hq:σ v=headT L (u.drop k)
   ·left
    refine ⟨k+m,σ,c.mono ?_⟩
    rintro e w' ⟨rfl,y1,y2⟩
    refine ⟨by rw [← hq];simp [sameB],hW.next hpo y1 y2 ?_ g6 (by omega) hW.bnd⟩
    rw [hd,mw_old hn (by rw [← hvv];exact hs),g5,List.drop_drop,← hvv,if_pos hq]
   ·right
    refine ⟨by rw [hW.mw,hd,mw_old hn (by rw [← hvv];exact hs),← hvv,if_neg hq],c.mono ?_⟩
    rintro e w' ⟨rfl,y1,y2⟩
    exact ⟨by simp [sameB,hq],bad w' y2⟩
set_option maxHeartbeats 4000000 in
theorem walk_any {b:Nat} {w:World} {L:List Sym} (h:Sg w.heap.size w b L) {po ao:Option Addr} {pcap cap:Nat} {p u:List Int} (hp:IntsAt w po p) (hu:IntsAt w ao u) (hpm:p.length≤2000) (hum:u.length≤2000) (huc:u.length≤cap) (hpv:∀ x∈p, -99≤x) (he:Even L p u) (hpn:0<u.length) :
  Calls Tryz.prog 61 #[.pointer (some ⟨b,0,none⟩),.slice po p.length pcap,.slice ao u.length cap] w fun e w' => ∃ cs f,e=.returned (.tuple #[.agg cs,.bool f])∧Same0 w w' ∧ (∀ σ,mw L p u noT=some σ→f=true∧TabV w.heap.size w' cs σ∧Bnd σ)∧(mw L p u noT=none→f=false∧TabV w.heap.size w' cs noT):=by
 obtain ⟨Z,hZ⟩:∃ Z:Array Value,Z=Array.replicate 100 (.slice none 0 0):=⟨_,rfl⟩
 have hz:Tryz.zeroCells144=Z:=zeros_table.trans hZ.symm
 have hmf:∀ (fn:Fn) (first cap:Array Value) (w:World),(Instr.makeFunc fn first cap).run Tryz.prog w=.ok (.func fn first cap) w:=fun _ _ _ _=>rfl
 have W0:=walk_start (po:=po) (pcap:=pcap) (cap:=cap) hZ h hp hu hum huc he hpn
 have hpo:Hid (∀ a,po=some a→p=[]∨a.block<w.heap.size):=fun a e=>by
  rcases hp with e' | ⟨b', off,e', hlt,_⟩
  ·exact .inl e'
  ·subst e;cases e'; exact .inr hlt
 have HV:Hid (∀ x∈p, -99≤x):=hpv
 have HZ:Hid (Z=Array.replicate 100 (.slice none 0 0)):=hZ
 have hZs:Z.size=100:=by rw [hZ];simp
 have HST:Hid (∀ w' : World,w'.heap[w.heap.size+1+1]? = some (.cells Z 144 (0,0))→(storeCells ⟨w.heap.size+1+1,0,none⟩ Z.toList 0).run Tryz.prog w' = .ok () (w'.setRow (w.heap.size+1+1) Z)):=fun w' hr=>run_storeCells_table hr hZs hZs (by rw [hZ];exact (tab_zero 0 w').one)
 clear hpv hZ
 go_enter Tryz.func61,Tryz.ntmps61
 go_wp2
 go_loopw [16] (fun iv wr=>∃ (i k:Nat) (σ:Tb),i≤p.length∧iv=.int .i64 (i:Int)∧WalkAt Z w wr b L po p ao cap u i k σ) (fun iv _=>p.length-(intOf iv).toNat)
 case atStart=>exact ⟨0,0,noT,Nat.zero_le _,rfl,W0⟩
 case round=>
  clear W0
  obtain ⟨i,k,σ,hi,rfl,hW⟩:=hrel
  by_cases hlt:i<p.length
  ·obtain ⟨pb,off,rfl,hpb,hc⟩:=hW.pat.get hlt
   have i1:(0:Int)≤(i:Int):=by omega
   have i2:(i:Int)<(p.length:Int):=by omega
   rcases walk_step hW hpo.out hlt (HV.out _ (List.getElem_mem hlt)) with ⟨k', σ', cc⟩ | ⟨hnone,cc⟩
   ·clear hW
    go_wp2_with (first | (go_at_call 106;refine cc.mono ?_;rintro e w' ⟨rfl,hW'⟩))
    exact ⟨⟨i+1,k', σ', by omega,by go_num,hW'⟩,by simp [intOf];omega⟩
   ·have HN:Hid (mw L p u noT=none):=hnone
    clear hnone hW
    go_wp2_with (first | (go_at_call 106;refine cc.mono ?_;rintro e w' ⟨rfl,hr,hk⟩;have hst:=HST.out w' hr))
    have k1:Same0 w (w'.setRow (w.heap.size+1+1) Z):=hk.setRow (fun e=>by omega) Z
    refine bodyPost_ret (v:=.tuple #[.agg Z,.bool false]) ?_ rfl ⟨Z,false,rfl,k1,fun σ e=>?_,fun _=>⟨rfl,?_⟩⟩
    ·rw [results_cell_tmp rfl]
     simp [asAddr,Result.andThen,run_load_table (setRow_at hr) hZs]
    ·rw [HN.out] at e;cases e
    ·rw [HZ.out];exact tab_zero _ _
  ·have hn:p.drop i=[]:=List.drop_eq_nil_of_le (by omega)
   have H:Hid (mw L p u noT=some σ):=by
    have:=hW.mw
    rw [hn] at this
    exact this.trans rfl
   have hb:=hW.bnd
   have hr:=hW.res
   have hk:=from_below hW.kept
   obtain ⟨cs,t1,t2⟩:=hW.pass.tab
   have hcs:=t2.1
   have hcl:cs.toList.length=100:=by simpa using hcs
   have hld:=run_loadCells_table t1 hcs
   have hst:=run_storeCells_table hr hZs hcs t2.one
   have T2:Hid (TabV w.heap.size wr cs σ):=t2
   clear hW hn t2
   go_wp2
   refine wp_load_row 144 (.tmp 8) rfl _ rfl _ cs (0,0) _ t1 Tryz.underlying144 rfl (by rw [hcs];exact info_table) ?_
   go_wp2
   have k1:Same0 w (wr.setRow (w.heap.size+1+1) cs):=hk.setRow (fun e=>by omega) cs
   refine bodyPost_ret (v:=.tuple #[.agg cs,.bool true]) ?_ rfl ⟨cs,true,rfl,k1,fun σ' e=>?_,fun e=>?_⟩
   ·rw [results_cell_tmp rfl]
    simp [asAddr,Result.andThen,run_load_table (setRow_at hr) hcs]
   ·rw [H.out] at e
    cases e
    exact ⟨rfl,T2.out.kept ((Kept.refl (fun i=>i=w.heap.size+1+1) wr).setRow (fun _=>rfl) cs) (fun k hk e=>by omega),hb⟩
   ·rw [H.out] at e;cases e
end Go.Proofs.YtjahpnbijefncaaGreat
