import Derived.Test.YtoajbpmgoklflaaGreatTB03
import Derived.Test.YtoajbpmgoklflaaGreatTB04
import Derived.Laws.AppendOwnNone
import Derived.Deep.WholeRow
namespace Go.Proofs.YtoajbpmgoklflaaGreat
set_option linter.unusedVariables false
open Go.RowKit
attribute [local go_sem ↓] Go.wp_at_zero Go.wp_at_succ
set_option maxHeartbeats 1000000 in
theorem rIsV_any (x:Int) (w:World):Calls Tryz.prog 183 #[.int .i64 x] w fun e w' => e=.returned (.bool (isV x))∧w' = w:=by
 by_cases h1:x<0
 ·by_cases h2 : -99≤x
  ·have H:Hid (isV x=true):=by show _=_;simp [isV];omega
   go_enter Tryz.func183,Tryz.ntmps183
   go_wp2
   go_ret
   exact ⟨by rw [H.out];rfl,rfl⟩
  ·have H:Hid (isV x=false):=by show _=_;simp [isV];omega
   go_enter Tryz.func183,Tryz.ntmps183
   go_wp2
   go_ret
   exact ⟨by rw [H.out];rfl,rfl⟩
 ·have H:Hid (isV x=false):=by show _=_;simp [isV];omega
  go_enter Tryz.func183,Tryz.ntmps183
  go_wp2
  go_ret
  exact ⟨by rw [H.out];rfl,rfl⟩
def inB (l:List Int) (n:Int):Bool:=decide (n∈l)
set_option maxHeartbeats 1000000 in
theorem rIn_any {w:World} {ao:Option Addr} {cap:Nat} {l:List Int} (hl:IntsAt w ao l) (n:Int) (hm:l.length≤maxLen):Calls Tryz.prog 175 #[.slice ao l.length cap,.int .i64 n] w fun e w' => e=.returned (.bool (inB l n))∧w' = w:=by
 unfold maxLen at hm
 go_enter Tryz.func175,Tryz.ntmps175
 go_wp2
 go_loop [5] (fun i=>∃ k:Nat,k≤l.length∧i=.int .i64 (k:Int)∧Hid (¬ n∈l.take k)) (fun i=>l.length-(intOf i).toNat)
 case atStart=>exact ⟨0,Nat.zero_le _,rfl,by simp [Hid]⟩
 case round=>
  obtain ⟨k,hk,rfl,hn⟩:=hrel
  by_cases hlt:k<l.length
  ·obtain ⟨b,off,rfl,_,hc⟩:=hl.get hlt
   have i1:(0:Int)≤(k:Int):=by omega
   have i2:(k:Int)<(l.length:Int):=by omega
   by_cases he:l[k]=n
   ·have H:Hid (inB l n=true):=by show _=_;simp [inB];rw [← he];exact List.getElem_mem hlt
    have he' : (l[k] == n)=true:=by simpa using he
    go_wp2
    go_ret
    exact ⟨by rw [H.out];rfl,rfl⟩
   ·have he' : (l[k] == n)=false:=by simpa using he
    have hn' : Hid (¬ n∈l.take (k+1)):=by
     rw [List.take_add_one,List.getElem?_eq_getElem hlt]
     intro hh
     rcases List.mem_append.1 hh with hh | hh
     ·exact hn.out hh
     ·simp at hh;exact he hh.symm
    go_wp2
    exact ⟨⟨k+1,by omega,by go_num,hn'⟩,by simp [intOf];omega⟩
  ·have H:Hid (inB l n=false):=by
    have:=hn.out
    rw [List.take_of_length_le (by omega)] at this
    show _=_;simpa [inB] using this
   go_wp2
   go_ret
   exact ⟨by rw [H.out];rfl,rfl⟩
theorem vstep_yes {o:List Int} {x:Int} (h1:isV x=true) (h2:inB o (-x)=false):vstep o x=o ++ [-x]:=by
 rw [vstep,if_pos ⟨h1,by simpa [inB] using h2⟩]
theorem vstep_in {o:List Int} {x:Int} (h2:inB o (-x)=true):vstep o x=o:=by
 rw [vstep,if_neg (by simp [inB] at h2;simp [h2])]
theorem vstep_no {o:List Int} {x:Int} (h1:isV x=false):vstep o x=o:=by
 rw [vstep,if_neg (by simp [h1])]
set_option maxHeartbeats 2000000 in
theorem rvars_any {w:World} {ao:Option Addr} {cap:Nat} {t:List Int} (ht:IntsAt w ao t) (hm:t.length * 8≤140737488351232) :
  Calls Tryz.prog 174 #[.slice ao t.length cap] w fun e w' => ∃ v,e=.returned v∧Row w.heap.size w' v (varsL t)∧Same0 w w' := by
 go_enter Tryz.func174,Tryz.ntmps174
 go_wp2
 go_loopw [3,4] (fun ov i wr=>∃ k:Nat,k≤t.length∧i=.int .i64 (k:Int)∧Row w.heap.size wr ov (varsL (t.take k))∧Same0 w wr) (fun _ i _=>t.length-(intOf i).toNat)
 case atStart=>exact ⟨0,Nat.zero_le _,rfl,World.ownsRow_nil _ _ _ _,Kept.refl _ _⟩
 case round=>
  obtain ⟨k,hk,rfl,hr,hs⟩:=hrel
  obtain ⟨oo,ocap,rfl⟩:=row_shape hr
  by_cases hlt:k<t.length
  ·obtain ⟨b,off,rfl,_,hc⟩:=(ht.same hs).get hlt
   have i1:(0:Int)≤(k:Int):=by omega
   have i2:(k:Int)<(t.length:Int):=by omega
   have E:Hid (varsL (t.take (k+1))=vstep (varsL (t.take k)) t[k]):=vs_take hlt
   have hl:=vs_len [] (t.take k)
   have hl2:(varsL (t.take k)).length≤t.length:=by simp at hl;unfold varsL;omega
   have cV:=fun w' => rIsV_any t[k] w'
   clear hl
   generalize hO:varsL (t.take k)=O at *
   generalize hX:t[k]=x at *
   cases hv:isV x with
   | false=>
    have E1:Hid (varsL (t.take (k+1))=O):=by rw [E.out];exact vstep_no hv
    rw [← E1.out] at hr
    simp only [hv] at cV
    have hlE:=congrArg List.length E1.out
    rw [← hlE]
    clear hlE
    go_wp2_with (first | (go_at_call 183;refine (cV _).mono ?_;rintro e wr ⟨rfl,rfl⟩))
    go_roundw
    case rel=>first | exact ⟨k+1,by omega,by go_num,hr,hs⟩ | ((repeat apply Exists.intro);exact ⟨⟨k+1,by omega,by go_num,hr,hs⟩,rfl⟩)
    case measure=>simp [intOf];omega
   | true=>
    simp only [hv] at cV
    have hx:=isV_iff.1 hv
    obtain ⟨oo', ocap', hvv,io,_,_⟩:=hr.ints
    simp only [Value.slice.injEq,true_and] at hvv
    obtain ⟨rfl,rfl⟩:=hvv
    have cI:=rIn_any (cap:=ocap) io (-x) (by unfold maxLen;omega)
    cases hin:inB O (-x) with
    | true=>
     have E1:Hid (varsL (t.take (k+1))=O):=by rw [E.out];exact vstep_in hin
     rw [hin] at cI
     go_wp2_with (first | (go_at_call 183;refine (cV _).mono ?_;rintro e wr ⟨rfl,rfl⟩) | (go_at_call 175;refine cI.mono ?_;rintro e wr ⟨rfl,rfl⟩))
     rw [← E1.out] at hr
     have hrE:Row w.heap.size wr (.slice oo O.length ocap) (varsL (t.take (k+1))):=by rw [E1.out] at hr ⊢;exact hr
     exact ⟨⟨k+1,by omega,by go_num,hrE,hs⟩,by simp [intOf];omega⟩
    | false=>
     have E1:Hid (varsL (t.take (k+1))=O ++ [-x]):=by rw [E.out];exact vstep_yes hv hin
     rw [hin] at cI
     have hb8:(O.length+1) * 8≤140737488355328:=by omega
     have hss:=hs.size
     go_wp2_with (first | (go_at_call 183;refine (cV _).mono ?_;rintro e wr ⟨rfl,rfl⟩) | (go_at_call 175;refine cI.mono ?_;rintro e wr ⟨rfl,rfl⟩) | (at_builtin;refine wpList_push rfl _ _ 32 rfl Tryz.underlying32 w.heap.size O _ rfl hr (-x) rfl hss hb8 ?_;intro g gcap w4 hr4 hk4 _;have hs4:=hs.onto hr hk4))
     rw [← E1.out] at hr4
     go_roundw
     case rel=>first | exact ⟨k+1,by omega,by go_num,hr4,hs4⟩ | ((repeat apply Exists.intro);exact ⟨⟨k+1,by omega,by go_num,hr4,hs4⟩,rfl⟩)
     case measure=>simp [intOf];omega
  ·obtain rfl:k=t.length:=by omega
   rw [List.take_length] at hr
   go_wp2
   go_ret
   refine ⟨_,rfl,?_,hs⟩
   simpa using hr
theorem zeros_bool:Tryz.zeroCells285=Array.replicate 100 (.bool false):=by kernel_rfl
def MetAt (w:World) (A:Nat) (o:List Int):Prop:=∃ cs,w.heap[A]? = some (.cells cs 285 (0,0))∧cs.size=100∧∀ v:Nat,1≤v→v≤99→cs[v]? = some (.bool (inB o (v:Int)))
theorem met_new (w:World):MetAt (w.alloc (.cells Tryz.zeroCells285 285)) w.heap.size []:=by
 refine ⟨_,heap_alloc_new w _,by rw [zeros_bool];simp,fun v h1 h2=>?_⟩
 rw [zeros_bool,Array.getElem?_replicate,if_pos (by omega)]
 simp [inB]
theorem MetAt.kept {w w' : World} {A:Nat} {o:List Int} {S:Nat→Prop} (h:MetAt w A o) (hk:Kept S w w') (hn:¬ S A):MetAt w' A o:=by
 obtain ⟨cs,h1,h2⟩:=h
 exact ⟨cs,hk.at h1 hn,h2⟩
theorem MetAt.cell {w:World} {A:Nat} {o:List Int} (h:MetAt w A o) {v:Nat} (h1:1≤v) (h2:v≤99):w.cell? ⟨A,v,none⟩=some (.bool (inB o (v:Int)))∧w.frozen? ⟨A,v,none⟩=false:=by
 obtain ⟨cs,q1,q2,q3⟩:=h
 exact ⟨(cellAt q1 v).trans (q3 v h1 h2),frozenAt q1 v⟩
theorem MetAt.set {w:World} {A:Nat} {o:List Int} (h:MetAt w A o) {v:Nat} (h1:1≤v) (h2:v≤99):MetAt (w.setCell ⟨A,v,none⟩ (.bool true)) A (o ++ [(v:Int)]):=by
 obtain ⟨cs,q1,q2,q3⟩:=h
 refine ⟨_,setAt q1 v _,by simpa using q2,fun u g1 g2=>?_⟩
 rw [Array.getElem?_setIfInBounds]
 by_cases e:v=u
 ·subst e;rw [if_pos rfl,if_pos (by omega)];simp [inB]
 ·rw [if_neg e,q3 u g1 g2]
  congr 2
  simp [inB];omega
set_option maxHeartbeats 4000000 in
theorem tvars_any {w:World} {ao:Option Addr} {cap:Nat} {t:List Int} (ht:IntsAt w ao t) (hm:t.length * 8≤140737488351232) :
  Calls Tryz.prog 169 #[.slice ao t.length cap] w fun e w' => ∃ v,e=.returned v∧Row w.heap.size w' v (varsL t)∧Same0 w w' := by
 have M0:=met_new w
 have K0:Same0 w (w.alloc (.cells Tryz.zeroCells285 285)):=(Kept.refl _ w).alloc _
 go_enter Tryz.func169,Tryz.ntmps169
 go_wp2
 go_loopw [4,9] (fun ov i wr=>∃ k:Nat,k≤t.length∧i=.int .i64 (k:Int)∧Row w.heap.size wr ov (varsL (t.take k))∧MetAt wr w.heap.size (varsL (t.take k))∧ov.ownBlock≠some w.heap.size∧Same0 w wr) (fun _ i _=>t.length-(intOf i).toNat)
 case atStart=>exact ⟨0,Nat.zero_le _,rfl,World.ownsRow_nil _ _ _ _,M0,by simp [Value.ownBlock],K0⟩
 case round=>
  clear M0 K0
  obtain ⟨k,hk,rfl,hr,hM,hne,hs⟩:=hrel
  obtain ⟨oo,ocap,rfl⟩:=row_shape hr
  by_cases hlt:k<t.length
  ·obtain ⟨b,off,rfl,_,hc⟩:=(ht.same hs).get hlt
   have i1:(0:Int)≤(k:Int):=by omega
   have i2:(k:Int)<(t.length:Int):=by omega
   have E:Hid (varsL (t.take (k+1))=vstep (varsL (t.take k)) t[k]):=vs_take hlt
   have hl:=vs_len [] (t.take k)
   have hl2:(varsL (t.take k)).length≤t.length:=by simp at hl;unfold varsL;omega
   have cV:=fun w' => isVariable_any t[k] w'
   clear hl
   generalize hO:varsL (t.take k)=O at *
   generalize hX:t[k]=x at *
   cases hv:isV x with
   | false=>
    have E1:Hid (varsL (t.take (k+1))=O):=by rw [E.out];exact vstep_no hv
    simp only [hv] at cV
    go_wp2_with (first | (go_at_call 135;refine (cV _).mono ?_;rintro e wr ⟨rfl,rfl⟩))
    have hrE:Row w.heap.size wr (.slice oo O.length ocap) (varsL (t.take (k+1))):=by rw [E1.out];exact hr
    have hME:MetAt wr w.heap.size (varsL (t.take (k+1))):=by rw [E1.out];exact hM
    exact ⟨⟨k+1,by omega,by go_num,hrE,hME,hne,hs⟩,by simp [intOf];omega⟩
   | true=>
    simp only [hv] at cV
    have hx:=isV_iff.1 hv
    obtain ⟨v,rfl⟩:∃ v:Nat,x = -(v:Int):=⟨(-x).toNat,by omega⟩
    have hv1:1≤v:=by omega
    have hv2:v≤99:=by omega
    obtain ⟨q1,q2⟩:=hM.cell hv1 hv2
    have j1:(0:Int)≤(v:Int):=by omega
    have j2:(v:Int)<100:=by omega
    cases hin:inB O (v:Int) with
    | true=>
     have E1:Hid (varsL (t.take (k+1))=O):=by rw [E.out];exact vstep_in (by simpa using hin)
     rw [hin] at q1
     go_wp2_with (first | (go_at_call 135;refine (cV _).mono ?_;rintro e wr ⟨rfl,rfl⟩))
     have hrE:Row w.heap.size wr (.slice oo O.length ocap) (varsL (t.take (k+1))):=by rw [E1.out];exact hr
     have hME:MetAt wr w.heap.size (varsL (t.take (k+1))):=by rw [E1.out];exact hM
     exact ⟨⟨k+1,by omega,by go_num,hrE,hME,hne,hs⟩,by simp [intOf];omega⟩
    | false=>
     have E1:Hid (varsL (t.take (k+1))=O ++ [(v:Int)]):=by show _=_;rw [E.out,vstep_yes hv (by simpa using hin)];simp
     rw [hin] at q1
     have hb8:(O.length+1) * 8≤140737488355328:=by omega
     have hMs:=hM.set hv1 hv2
     have ks:Kept (fun k=>k=w.heap.size) wr (wr.setCell ⟨w.heap.size,v,none⟩ (.bool true)):=Kept.setCell (S:=fun k=>k=w.heap.size) (p:=⟨w.heap.size,v,none⟩) (Kept.refl _ _) (fun _=>rfl) _
     have hrs:Row w.heap.size (wr.setCell ⟨w.heap.size,v,none⟩ (.bool true)) (.slice oo O.length ocap) O:=ks.row hr (fun k e e' => hne (by rw [e,e']))
     have hss:Same0 w (wr.setCell ⟨w.heap.size,v,none⟩ (.bool true)):=hs.own (Nat.le_refl _) _
     have hsz:=hss.size
     have hAl:w.heap.size<wr.heap.size:=by obtain ⟨cs,q,_⟩:=hM;exact lt_of_at q
     have E3:Hid ((wr.setCell ⟨w.heap.size,v,none⟩ (.bool true)).heap.size=wr.heap.size):=by show _=_;simp [World.setCell]
     clear hM hr
     go_wp2_with (first | (go_at_call 135;refine (cV _).mono ?_;rintro e wr ⟨rfl,rfl⟩) | (at_builtin;refine wpList_push rfl _ _ 32 rfl Tryz.underlying32 w.heap.size O (.slice oo O.length ocap) rfl hrs (v:Int) (by rw [E3.out];rfl) hsz hb8 ?_;intro g gcap w4 hr4 hk4 hat4;have hs4:=hss.onto hrs hk4))
     have hM4:MetAt w4 w.heap.size (O ++ [(v:Int)]):=hMs.kept hk4 hne
     have hne4:Value.ownBlock (.slice (some ⟨g,0,none⟩) (O.length+1) gcap)≠some w.heap.size:=by
      simp only [Value.ownBlock,ne_eq,Option.some.injEq]
      rcases hat4 with e | e
      ·intro e'; exact hne (by rw [e,e'])
      ·have e3:=E3.out
       omega
     rw [← E1.out] at hr4 hM4
     go_roundw
     case rel=>first | exact ⟨k+1,by omega,by go_num,hr4,hM4,hne4,hs4⟩ | ((repeat apply Exists.intro);exact ⟨⟨k+1,by omega,by go_num,hr4,hM4,hne4,hs4⟩,rfl⟩)
     case measure=>simp [intOf];omega
  ·obtain rfl:k=t.length:=by omega
   rw [List.take_length] at hr
   go_wp2
   go_ret
   refine ⟨_,rfl,?_,hs⟩
   simpa using hr
def Lists (w:World) (lo:Option Addr) (ls:List (List Int)):Prop:=
 ls=[]∨∃ b off,lo=some ⟨b,off,none⟩∧b<w.heap.size∧∀ i (h:i<ls.length),∃ ao cap,w.cell? ⟨b,off+i,none⟩=some (.slice ao ls[i].length cap)∧IntsAt w ao ls[i]∧(ao=none→ls[i].length=0∧cap=0)
theorem Lists.same {w w' : World} {lo:Option Addr} {ls:List (List Int)} (h:Lists w lo ls) (hk:Same0 w w'):Lists w' lo ls:=by
 refine h.imp id ?_
 rintro ⟨b,off,rfl,hlt,hc⟩
 refine ⟨b,off,rfl,Nat.lt_of_lt_of_le hlt hk.size,fun i hi=>?_⟩
 obtain ⟨ao,cap,c1,c2,c3⟩:=hc i hi
 exact ⟨ao,cap,(hk.cell (p:=⟨b,off+i,none⟩) hlt (fun f=>f)).trans c1,c2.same hk,c3⟩
theorem Lists.get {w:World} {lo:Option Addr} {ls:List (List Int)} (h:Lists w lo ls) {i:Nat} (hi:i<ls.length):∃ b off ao cap,lo=some ⟨b,off,none⟩∧b<w.heap.size∧w.cell? ⟨b,off+i,none⟩=some (.slice ao ls[i].length cap)∧IntsAt w ao ls[i]∧(ao=none→ls[i].length=0∧cap=0):=by
 rcases h with rfl | ⟨b,off,e,hlt,hc⟩
 ·simp at hi
 ·obtain ⟨ao,cap,c1,c2,c3⟩:=hc i hi
  exact ⟨b,off,ao,cap,e,hlt,c1,c2,c3⟩
structure PlAt (s:Nat) (wr:World) (g n:Nat) (cs:List Value) (done:List (List Int)):Prop where
 row:wr.ownsRow s 64 1 (.slice (some ⟨g,0,none⟩) n n) n cs
 len:done.length≤n
 each:∀ j (h:j<done.length),∃ v,cs[j]? = some v∧Row s wr v done[j]∧v.ownBlock≠some g
 apart:∀ i j vi vj,i<done.length→j<done.length→i≠j→cs[i]? = some vi→cs[j]? = some vj→∀ k,vi.ownBlock=some k→vj.ownBlock≠some k
theorem PlAt.kept {s:Nat} {wr w' : World} {g n:Nat} {cs:List Value} {done:List (List Int)} {S:Nat→Prop} (h:PlAt s wr g n cs done) (hk:Kept S wr w') (hn:∀ k,s≤k→k<wr.heap.size→(k=g∨∃ v∈cs,v.ownBlock=some k)→¬ S k):PlAt s w' g n cs done:=by
 have gl:=h.row.lt g rfl
 refine ⟨hk.row h.row (fun k e=>?_),h.len,fun j hj=>?_,h.apart⟩
 ·have e' : k=g:=by simpa [Value.ownBlock] using e.symm
  subst e'
  exact hn k gl.1 gl.2 (.inl rfl)
 ·obtain ⟨v,h1,h2,h3⟩:=h.each j hj
  refine ⟨v,h1,hk.row h2 (fun k e=>?_),h3⟩
  have:=h2.lt k e
  exact hn k this.1 this.2 (.inr ⟨v,List.mem_of_getElem? h1,e⟩)
theorem PlAt.same {s:Nat} {wr w' : World} {g n:Nat} {cs:List Value} {done:List (List Int)} (h:PlAt s wr g n cs done) (hk:Same0 wr w'):PlAt s w' g n cs done:=h.kept hk (fun _ _ _ _ f=>f)
theorem PlAt.cell {s:Nat} {wr:World} {g n:Nat} {cs:List Value} {done:List (List Int)} (h:PlAt s wr g n cs done) {j:Nat} (hj:j<n):∃ v,cs[j]? = some v∧wr.cell? ⟨g,j,none⟩=some v∧wr.frozen? ⟨g,j,none⟩=false:=by
 have hl:j<cs.length:=by have:=h.row.1;omega
 exact ⟨cs[j],List.getElem?_eq_getElem hl,(h.row.cellAt j (by omega)).trans (List.getElem?_eq_getElem hl),h.row.frozenAt j⟩
theorem PlAt.add {s:Nat} {wr:World} {g n:Nat} {cs:List Value} {done:List (List Int)} (h:PlAt s wr g n cs done) {v:Value} {t:List Int} (hr:Row s wr v t) (hd:done.length<n) (hg:v.ownBlock≠some g) (hv:∀ j vj,j<done.length→cs[j]? = some vj→∀ k,v.ownBlock=some k→vj.ownBlock≠some k) :
  PlAt s (wr.setCell ⟨g,done.length,none⟩ v) g n (cs.set done.length v) (done ++ [t]):=by
 have hl:cs.length=n:=by have:=h.row.1;omega
 have ks:Kept (fun k=>k=g) wr (wr.setCell ⟨g,done.length,none⟩ v):=Kept.setCell (S:=fun k=>k=g) (p:=⟨g,done.length,none⟩) (Kept.refl _ _) (fun _=>rfl) _
 refine ⟨(h.row.stored done.length v).1,by simp;omega,fun j hj=>?_,?_⟩
 ·by_cases e:j=done.length
  ·subst e
   refine ⟨v,List.getElem?_set_self (by omega),?_,hg⟩
   simpa using ks.row hr (fun k e e' => hg (by rw [e,e']))
  ·have hj' : j<done.length:=by simp at hj;omega
   obtain ⟨v', h1,h2,h3⟩:=h.each j hj'
   refine ⟨v', by rw [List.getElem?_set_ne (by omega)];exact h1,?_,h3⟩
   rw [List.getElem_append_left hj']
   exact ks.row h2 (fun k e e' => h3 (by rw [e,e']))
 ·intro i j vi vj hi hj hij hvi hvj k hk
  simp at hi hj
  by_cases e1:i=done.length
  ·subst e1
   rw [List.getElem?_set_self (by omega)] at hvi
   cases hvi
   rw [List.getElem?_set_ne (by omega)] at hvj
   exact hv j vj (by omega) hvj k hk
  ·rw [List.getElem?_set_ne (by omega)] at hvi
   by_cases e2:j=done.length
   ·subst e2
    rw [List.getElem?_set_self (by omega)] at hvj
    cases hvj
    intro e3
    exact hv i vi (by omega) hvi k e3 hk
   ·rw [List.getElem?_set_ne (by omega)] at hvj
    exact h.apart i j vi vj (by omega) (by omega) hij hvi hvj k hk
theorem PlAt.put {s:Nat} {wr:World} {g n:Nat} {cs:List Value} {done:List (List Int)} {t:List Int} (h:PlAt s wr g n cs (done ++ [t])) {k:Nat} (hk:k<t.length) (x:Int) :
  ∃ r cap,cs[done.length]? = some (.slice (some ⟨r,0,none⟩) t.length cap)∧r≠g∧s≤r∧r<wr.heap.size∧wr.cell? ⟨r,k,none⟩=some (.int .i64 t[k])∧wr.frozen? ⟨r,k,none⟩=false∧PlAt s (wr.setCell ⟨r,k,none⟩ (.int .i64 x)) g n cs (done ++ [t.set k x]):=by
 have hd:done.length<(done ++ [t]).length:=by simp
 obtain ⟨v,h1,h2,h3⟩:=h.each done.length hd
 have e0:(done ++ [t])[done.length]=t:=by simp
 rw [e0] at h2
 obtain ⟨r,cap,hv,hb,hlt⟩:=h2.form (by omega)
 subst hv
 have hrg:r≠g:=fun e=>h3 (by rw [e];rfl)
 have hrow:=h2
 have ks:Kept (fun k=>k=r) wr (wr.setCell ⟨r,k,none⟩ (.int .i64 x)):=Kept.setCell (S:=fun k=>k=r) (p:=⟨r,k,none⟩) (Kept.refl _ _) (fun _=>rfl) _
 refine ⟨r,cap,h1,hrg,hb,hlt,(hrow.cellAt k (by omega)).trans (iv_get hk),hrow.frozenAt k,⟨ks.row h.row (fun k' e e' => hrg (by simp [Value.ownBlock] at e;omega)),by have:=h.len;simpa using this,fun j hj=>?_,?_⟩⟩
 ·by_cases e:j=done.length
  ·subst e
   refine ⟨_,h1,?_,h3⟩
   have:=(hrow.stored k (.int .i64 x)).1
   have e1:(done ++ [t.set k x])[done.length]=t.set k x:=by simp
   rw [e1]
   unfold Row
   rw [List.length_set]
   have e2:iv (t.set k x)=(iv t).set k (.int .i64 x):=by simp [iv,List.map_set]
   rw [e2];exact this
  ·have hj' : j<done.length:=by simp at hj;omega
   obtain ⟨v', g1,g2,g3⟩:=h.each j (by simp;omega)
   refine ⟨v', g1,?_,g3⟩
   rw [List.getElem_append_left hj'] at g2 ⊢
   refine ks.row g2 (fun k' e1 e2=>?_)
   exact h.apart j done.length v' _ (by simp;omega) (by simp) (by omega) g1 h1 k' e1 (by simp [Value.ownBlock];omega)
 ·intro i j vi vj hi hj
  exact h.apart i j vi vj (by simpa using hi) (by simpa using hj)
theorem row_prefix {base g:Nat} {w:World} {xs ys:List Int} {m c:Nat} (h:Row base w (.slice (some ⟨g,0,none⟩) m c) (xs++ys)):IntsAt w (some ⟨g,0,none⟩) xs:=by
 obtain ⟨ao,cap,hv,hi,_,_⟩:=h.ints
 cases hv
 rcases hi with e | ⟨b,off,e,hlt,hc⟩
 ·exact .inl (by simp at e;exact e.1)
 ·cases e
  refine .inr ⟨_,_,rfl,hlt,fun i hi=>?_⟩
  have:=hc i (by simp;omega)
  rwa [List.getElem_append_left hi] at this
def Over (base g n:Nat) (w wr:World):Prop:=(∃ ys,wr.ownsRow base 3 1 (.slice (some ⟨g,0,none⟩) n n) n ys)∧Kept (fun k=>k=g) w wr
theorem Over.store {base g n:Nat} {w wr:World} (h:Over base g n w wr) (k:Nat) (u:Value):Over base g n w (wr.setCell ⟨g,k,none⟩ u):=by
 obtain ⟨⟨ys,h1⟩,h2⟩:=h
 exact ⟨⟨_,(h1.stored k u).1⟩,h2.setCell (p:=⟨g,k,none⟩) (fun _=>rfl) u⟩
theorem Same0.after {w w5 w6:World} {S:Nat→Prop} (h:Same0 w w5) (k:Kept S w5 w6) (hs:∀ i,i<w.heap.size→¬ S i):Same0 w w6:=
 Kept.trans h k (fun i hi e=>(hs i hi e).elim)
def OverA (base:Nat) (v:Value) (B:Nat→Prop) (n:Nat) (w wr:World):Prop:=∃ zs:List Int,zs.length=n∧Row base wr v zs∧(∀ k,v.ownBlock=some k→B k)∧Kept B w wr
theorem OverA.at {base:Nat} {ao:Option Addr} {cap n:Nat} {B:Nat→Prop} {w wr:World} (h:OverA base (.slice ao n cap) B n w wr) {k:Nat} (hk:k<n):∃ g,ao=some ⟨g,0,none⟩∧∃ old,wr.cell? ⟨g,k,none⟩=some old∧wr.frozen? ⟨g,k,none⟩=false:=by
 obtain ⟨zs,rfl,h1,_,_⟩:=h
 obtain ⟨g,cap', hv,_,_⟩:=h1.form (by omega)
 cases hv
 exact ⟨g,rfl,row_put h1 hk⟩
theorem OverA.store {base g:Nat} {cap n:Nat} {B:Nat→Prop} {w wr:World} (h:OverA base (.slice (some ⟨g,0,none⟩) n cap) B n w wr) (k:Nat) (x:Int):OverA base (.slice (some ⟨g,0,none⟩) n cap) B n w (wr.setCell ⟨g,k,none⟩ (.int .i64 x)):=by
 obtain ⟨zs,rfl,h1,hB,h2⟩:=h
 refine ⟨zs.set k x,by simp,?_,hB,h2.setCell (p:=⟨g,k,none⟩) (fun _=>hB g rfl) _⟩
 have:=(h1.stored k (.int .i64 x)).1
 unfold Row
 rw [List.length_set]
 have e:iv (zs.set k x)=(iv zs).set k (.int .i64 x):=by simp [iv,List.map_set]
 rw [e];exact this
theorem wpList_more {w0:World} {ops:Array Oper} {rest:List Oper} {o:Oper} {a:Act} {Q:Exit→Act→World→Prop} (hgd:o.guard=none) (s x:Operand) (t:TypeId)
  (ho:o.op=.call { callee:=.builtin .append,args:=#[s,x],argTypes:=#[t,t] }) (ht:Tryz.prog.underlying t=some (.slice 3))
  (base:Nat) (xs:List Int) (v:Value) (hs:a.eval s=v) (hr:Row base w0 v xs) (ys:List Int) (ad:Addr) (m c:Nat) (hx:a.eval x=.slice (some ad) m c) (hm:m=ys.length) (hy:IntsAt w0 (some ad) ys) (hb:base≤w0.heap.size) (hsz:(xs.length+ys.length) * 8≤140737488355328)
  (h:∀ v' w', Row base w' v' (xs++ys)→Kept (fun k=>v.ownBlock=some k) w0 w' → wpList Tryz.prog ops Q rest (a.put o.dst v') w') :
  wpList Tryz.prog ops Q (o :: rest) a w0:=by
 subst hm
 obtain ⟨i,hi,hz0,hz1,hz2⟩:=info_parts info_intT
 refine wpList_append_own _ hgd s x t ho base 3 i (.int .i64 0) 1 8 ht hi hz0 hz1 hz2 rfl (by decide) v xs.length (iv xs) hs hr ad ys.length c (iv ys) hx (by rw [iv_length];omega) (fun j u hj=>?_) (iv_oneCell ys) (by unfold maxLen;omega) hsz hb ?_
 ·obtain ⟨ad', e,hc⟩:=hy.src (by have:=(List.getElem?_eq_some_iff.1 hj).1;omega)
  cases e
  exact hc j u hj
 ·intro v' w' hown hgrow _
  refine h v' w' ?_ (Kept.grown (Kept.refl _ w0) hgrow (fun _ e _=>e))
  unfold Row;rw [iv_append,List.length_append];exact hown
theorem row_empty (w:World) (base:Nat) (hb:base≤w.heap.size) {o:Obj} (ho:o=.cells #[] 3 (0,0)):Row base (w.alloc o) (.slice (some ⟨w.heap.size,0,none⟩) 0 0) []:=by
 subst ho
 exact ⟨rfl,.inr ⟨w.heap.size,0, #[],rfl,hb,heap_alloc_new w _,Nat.le_refl _,by unfold maxLen;omega,rfl,rfl⟩⟩
set_option maxHeartbeats 4000000 in
theorem rput_any {n:Nat} {w:World} {rv:Value} {L:List Sym} (h:Rl n w rv L) {ao uo:Option Addr} {cap ucap:Nat} {t u:List Int} (ht:IntsAt w ao t) (hm:t.length≤2000) (hcap:t.length≤cap) (hT:IsT L t) (p:Nat) (hp:p<t.length) (hu:IntsAt w uo u) (hum:u.length≤2000) (hun:0<u.length) :
  Calls Tryz.prog 89 #[rv,.slice ao t.length cap,.int .i64 (p:Int),.slice uo u.length ucap] w fun e w' => ∃ v,e=.returned v∧Row w.heap.size w' v (putN L t p u)∧Same0 w w' := by
 have c2:∀ w1,Same0 w w1→Calls Tryz.prog 67 #[rv,.slice ao t.length cap,.int .i64 (p:Int)] w1 fun e w' => e=.returned (.int .i64 (endN L t p:Int))∧w' = w1:=fun w1 hk=>rend_any (cap:=cap) (h.same hk) (ht.same hk) hm p (by omega)
 obtain ⟨ro,rcap,rfl⟩:=row_shape h.1
 obtain ⟨hl1,hl2⟩:=endN_le hT hp
 obtain ⟨tb,off,rfl,htb,hc⟩:=ht.get hp
 obtain ⟨ub,uoff,rfl,_,_⟩:=hu.get (i:=0) hun
 have i0:¬ (p:Int)<0:=by omega
 have i1:(0:Int)≤(p:Int):=by omega
 have i3:(endN L t p:Int)≤(t.length:Int):=by omega
 have i4:(0:Int)≤(endN L t p:Int):=by omega
 have i5:(p:Int)<(t.length:Int):=by omega
 have i6:(p:Int)≤(cap:Int):=by omega
 have k0:Same0 w (w.alloc (.cells #[] 3)):=(Kept.refl _ w).alloc _
 have r0:Row w.heap.size (w.alloc (.cells #[] 3)) (.slice (some ⟨w.heap.size,0,none⟩) 0 0) []:=row_empty w _ (Nat.le_refl _) rfl
 have cI:IntsAt (w.alloc (.cells #[] 3)) (some ⟨tb,off,none⟩) (t.take p):=by simpa using (ht.same k0).cut 0 p
 have tail:∀ w1 (a2:Option Addr),Same0 w w1→(a2=some ⟨tb,off+endN L t p,none⟩∨cap=endN L t p)→IntsAt w1 a2 (t.drop (endN L t p)):=fun w1 a2 hk e=>by
  rcases e with rfl | e
  ·simpa using (ht.same hk).cut (endN L t p) t.length
  ·rw [List.drop_eq_nil_of_le (by omega)];exact IntsAt.nil _ _
 have z0:=k0.size
 have l1:(t.take p).length=p:=by simp;omega
 have H:Hid (putN L t p u=(t.take p++u)++t.drop (endN L t p)):=rfl
 have l2:(t.drop (endN L t p)).length=t.length-endN L t p:=by simp
 have HT:Hid (∀ w1 (a2:Option Addr),Same0 w w1→(a2=some ⟨tb,off+endN L t p,none⟩∨cap=endN L t p)→IntsAt w1 a2 (t.drop (endN L t p))):=tail
 have HC:Hid (∀ w1,Same0 w w1→Calls Tryz.prog 67 #[.slice ro L.length rcap,.slice (some ⟨tb,off,none⟩) t.length cap,.int .i64 (p:Int)] w1 fun e w' => e=.returned (.int .i64 (endN L t p:Int))∧w' = w1):=c2
 clear tail c2
 go_enter Tryz.func89,Tryz.ntmps89
 go_upto_region 4 with (first
   | (at_builtin;refine wpList_more rfl (.tmp 18) (.tmp 21) 64 rfl Tryz.underlying64 w.heap.size [] _ rfl r0 (t.take p) _ _ _ rfl (by omega) cI z0 (by simp;omega) ?_;intro v1 w1 hr1 hk1))
 rw [List.nil_append] at hr1
 have s1:=k0.onto r0 hk1
 have u1:=hu.same s1
 have z1:=s1.size
 clear r0 cI hk1 k0 z0
 go_upto_region 5 with (first
   | (at_builtin;refine wpList_more rfl (.tmp 23) (.tmp 24) 64 rfl Tryz.underlying64 w.heap.size (t.take p) v1 rfl hr1 u _ _ _ rfl rfl u1 z1 (by omega) ?_;intro v2 w2 hr2 hk2))
 have s2:=s1.onto hr1 hk2
 have z2:=s2.size
 have c3:=HC.out _ s2
 have B3:Hid (((t.take p++u).length+(t.drop (endN L t p)).length) * 8≤140737488355328):=by show _≤_;rw [List.length_append,l1,l2];omega
 have B4:Hid (t.length-endN L t p=(t.drop (endN L t p)).length):=l2.symm
 clear l1 l2
 clear hr1 hk2 u1 z1 HC
 by_cases hcb:cap=endN L t p
 ·have t2:=HT.out _ (some ⟨tb,off,none⟩) s2 (.inr hcb)
  have B5:Hid (0=(t.drop (endN L t p)).length):=by have:=B4.out;show _=_;omega
  clear HT
  subst hcb
  go_wp2_with (first
   | (go_at_call 67;refine c3.mono ?_;rintro e w' ⟨rfl,rfl⟩)
   | (at_builtin;refine wpList_more rfl (.tmp 26) (.tmp 32) 64 rfl Tryz.underlying64 w.heap.size (t.take p++u) v2 rfl hr2 (t.drop (endN L t p)) _ _ _ rfl (by first | exact B4.out | exact B5.out) t2 z2 B3.out ?_;intro v3 w3 hr3 hk3))
  go_ret
  exact ⟨_,rfl,by rw [H.out];exact hr3,s2.onto hr2 hk3⟩
 ·have t2:=HT.out _ (some ⟨tb,off+endN L t p,none⟩) s2 (.inl rfl)
  clear HT
  go_wp2_with (first
   | (go_at_call 67;refine c3.mono ?_;rintro e w' ⟨rfl,rfl⟩)
   | (at_builtin;refine wpList_more rfl (.tmp 26) (.tmp 32) 64 rfl Tryz.underlying64 w.heap.size (t.take p++u) v2 rfl hr2 (t.drop (endN L t p)) _ _ _ rfl (by first | exact B4.out | exact B5.out) t2 z2 B3.out ?_;intro v3 w3 hr3 hk3))
  go_ret
  exact ⟨_,rfl,by rw [H.out];exact hr3,s2.onto hr2 hk3⟩
end Go.Proofs.YtoajbpmgoklflaaGreat
namespace Go.Proofs.YtoajbpmgoklflaaGreat
set_option maxRecDepth 100000
set_option linter.unusedVariables false
open Go.RowKit
attribute [local go_sem ↓] Go.wp_at_zero Go.wp_at_succ
def TabV (N:Nat) (w:World) (cs:Array Value) (σ:Tb):Prop:=cs.size=100∧∀ v,v<100→∃ ao cap,cs[v]? = some (.slice ao (σ v).length cap)∧IntsAt w ao (σ v)∧(σ v).length≤cap∧(σ v=[]→ao=none∧cap=0)∧∀ a,ao=some a→a.block<N
def TabAt (N:Nat) (w:World) (A:Nat) (σ:Tb):Prop:=∃ cs,w.heap[A]? = some (.cells cs 144 (0,0))∧TabV N w cs σ
theorem TabV.kept {N:Nat} {w w' : World} {cs:Array Value} {σ:Tb} {S:Nat→Prop} (h:TabV N w cs σ) (hk:Kept S w w') (hs:∀ k,k<N→¬ S k):TabV N w' cs σ:=
 ⟨h.1,fun v hv=>by obtain ⟨ao,cap,h1,h2,h3,h4,h5⟩:=h.2 v hv;exact ⟨ao,cap,h1,h2.kept hk (fun a e=>hs _ (h5 a e)),h3,h4,h5⟩⟩
theorem TabV.same {N:Nat} {w w' : World} {cs:Array Value} {σ:Tb} (h:TabV N w cs σ) (hk:Same0 w w'):TabV N w' cs σ:=h.kept hk (fun _ _ f=>f)
theorem TabAt.kept {N:Nat} {w w' : World} {A:Nat} {σ:Tb} {S:Nat→Prop} (h:TabAt N w A σ) (hk:Kept S w w') (hs:∀ k,k<N→¬ S k) (hA:¬ S A):TabAt N w' A σ:=by
 obtain ⟨cs,h1,h2⟩:=h
 exact ⟨cs,hk.at h1 hA,h2.kept hk hs⟩
theorem TabAt.same {N:Nat} {w w' : World} {A:Nat} {σ:Tb} (h:TabAt N w A σ) (hk:Same0 w w'):TabAt N w' A σ:=h.kept hk (fun _ _ f=>f) (fun f=>f)
theorem TabAt.cell {N:Nat} {w:World} {A:Nat} {σ:Tb} (h:TabAt N w A σ) {v:Nat} (hv:v<100):∃ ao cap,w.cell? ⟨A,v,none⟩=some (.slice ao (σ v).length cap)∧w.frozen? ⟨A,v,none⟩=false∧IntsAt w ao (σ v)∧(σ v).length≤cap∧(σ v=[]→ao=none∧cap=0):=by
 obtain ⟨cs,h1,h2,h3⟩:=h
 obtain ⟨ao,cap,g1,g2,g3,g4,_⟩:=h3 v hv
 exact ⟨ao,cap,(cellAt h1 v).trans g1,frozenAt h1 v,g2,g3,g4⟩
theorem TabAt.put {N:Nat} {w:World} {A:Nat} {σ:Tb} (h:TabAt N w A σ) (hA:N≤A) {v:Nat} (hv:v<100) {u:List Int} {a:Addr} {cap:Nat} (hu:IntsAt w (some a) u) (hc:u.length≤cap) (hn:u≠[]) (ha:a.block<N) :
  TabAt N (w.setCell ⟨A,v,none⟩ (.slice (some a) u.length cap)) A (updT σ v u):=by
 obtain ⟨cs,h1,h2,h3⟩:=h
 have k:Kept (fun i=>i=A) w (w.setCell ⟨A,v,none⟩ (.slice (some a) u.length cap)):=Kept.setCell (p:=⟨A,v,none⟩) (Kept.refl (fun i=>i=A) w) (fun _=>rfl) _
 have hne:∀ k,k<N→¬ k=A:=fun k hk e=>by omega
 refine ⟨_,setAt h1 v _,by simpa using h2,fun x hx=>?_⟩
 rw [Array.getElem?_setIfInBounds]
 by_cases e:v=x
 ·subst e
  rw [if_pos rfl,if_pos (by omega),upd_same]
  exact ⟨some a,cap,rfl,hu.kept k (fun b e=>by cases e;exact hne _ ha),hc,fun e=>absurd e hn,fun b e=>by cases e;exact ha⟩
 ·rw [if_neg e,upd_else (fun h=>e h.symm)]
  obtain ⟨ao,c,g1,g2,g3,g4,g5⟩:=h3 x hx
  exact ⟨ao,c,g1,g2.kept k (fun b e=>hne _ (g5 b e)),g3,g4,g5⟩
theorem eqnil (w:World) (a:Option Addr) (n c n' c' : Nat):(binOp .eql 64 (.slice a n c) (.slice none n' c')).run Tryz.prog w=.ok (.bool a.isNone) w:=Lib.run_eql_slice_nil w _ _ a n c n' c' Tryz.underlying64
def Bnd (σ:Tb):Prop:=∀ v,(σ v).length≤2000
set_option maxHeartbeats 2000000 in
theorem clone_term {w:World} {ao:Option Addr} {cap:Nat} {xs:List Int} (hx:IntsAt w ao xs) (hn:0<xs.length) (hsz:xs.length≤2000) :
  Calls Tryz.prog 94 #[.slice ao xs.length cap] w fun e w' => ∃ v,e=.returned v∧Row w.heap.size w' v xs∧Same0 w w' := by
 obtain ⟨xb,off,rfl,hxb,hc⟩:=hx.get hn
 have k0:Same0 w (w.alloc (.cells #[] 3)):=(Kept.refl _ w).alloc _
 have r0:Row w.heap.size (w.alloc (.cells #[] 3)) (.slice (some ⟨w.heap.size,0,none⟩) 0 0) []:=row_empty w _ (Nat.le_refl _) rfl
 have cI:=hx.same k0
 have z0:=k0.size
 have hnil:=eqnil
 go_enter Tryz.func94,Tryz.ntmps94
 go_wp2_with (first | (at_builtin;refine wpList_more rfl _ _ 64 rfl Tryz.underlying64 w.heap.size [] _ rfl r0 xs _ _ _ rfl rfl cI z0 (by simp;omega) ?_;intro v' w4 hr4 hk4))
 go_ret
 exact ⟨_,rfl,by simpa using hr4,k0.onto r0 hk4⟩
structure PassAt (N:Nat) (w:World) (aB tB sB A b:Nat) (L:List Sym) (ao:Option Addr) (cap:Nat) (u:List Int) (k:Nat) (σ:Tb):Prop where
 a0:w.heap[aB]? = some (.cells #[.int .i64 (k:Int)] 3 (0,0))
 t0:w.heap[tB]? = some (.cells #[.slice ao u.length cap] 64 (0,0))
 s0:w.heap[sB]? = some (.cells #[.pointer (some ⟨b,0,none⟩)] 25 (0,0))
 tab:TabAt N w A σ
 ints:IntsAt w ao u
 ub:∀ a,ao=some a→a.block<N
 uc:u.length≤cap
 um:u.length≤2000
 sg:Sg N w b L
 ne:N≤aB∧N≤tB∧N≤sB∧N≤A∧aB≠tB∧aB≠sB∧aB≠A∧tB≠A∧sB≠A
theorem PassAt.same {N:Nat} {w w' : World} {aB tB sB A b:Nat} {L:List Sym} {ao:Option Addr} {cap:Nat} {u:List Int} {k:Nat} {σ:Tb} (h:PassAt N w aB tB sB A b L ao cap u k σ) (hk:Same0 w w'):PassAt N w' aB tB sB A b L ao cap u k σ:=
 ⟨hk.at0 h.a0,hk.at0 h.t0,hk.at0 h.s0,h.tab.same hk,h.ints.same hk,h.ub,h.uc,h.um,h.sg.same hk,h.ne⟩
theorem PassAt.cells {N:Nat} {w:World} {aB tB sB A b:Nat} {L:List Sym} {ao:Option Addr} {cap:Nat} {u:List Int} {k:Nat} {σ:Tb} (h:PassAt N w aB tB sB A b L ao cap u k σ) :
  w.cell? ⟨aB,0,none⟩=some (.int .i64 (k:Int))∧w.frozen? ⟨aB,0,none⟩=false∧w.cell? ⟨tB,0,none⟩=some (.slice ao u.length cap)∧w.cell? ⟨sB,0,none⟩=some (.pointer (some ⟨b,0,none⟩)):=
 ⟨cellAt h.a0 0,frozenAt h.a0 0,cellAt h.t0 0,cellAt h.s0 0⟩
theorem PassAt.go {N:Nat} {w:World} {aB tB sB A b:Nat} {L:List Sym} {ao:Option Addr} {cap:Nat} {u:List Int} {k:Nat} {σ:Tb} (h:PassAt N w aB tB sB A b L ao cap u k σ) (k' : Nat):PassAt N (w.setCell ⟨aB,0,none⟩ (.int .i64 (k' : Int))) aB tB sB A b L ao cap u k' σ:=by
 have hk:Kept (fun i=>i=aB) w (w.setCell ⟨aB,0,none⟩ (.int .i64 (k' : Int))):=Kept.setCell (p:=⟨aB,0,none⟩) (Kept.refl (fun i=>i=aB) w) (fun _=>rfl) _
 obtain ⟨n1,n2,n3,n4,n5,n6,n7,n8,n9⟩:=h.ne
 have hlo:∀ i,i<N→¬ i=aB:=fun i hi e=>by omega
 exact ⟨by rw [setAt h.a0];rfl,hk.at h.t0 (fun e=>n5 e.symm),hk.at h.s0 (fun e=>n6 e.symm),h.tab.kept hk hlo (fun e=>n7 e.symm),h.ints.kept hk (fun a e=>hlo _ (h.ub a e)),h.ub,h.uc,h.um,h.sg.kept hk hlo,h.ne⟩
theorem PassAt.put {N:Nat} {w:World} {aB tB sB A b:Nat} {L:List Sym} {ao:Option Addr} {cap:Nat} {u:List Int} {k:Nat} {σ:Tb} (h:PassAt N w aB tB sB A b L ao cap u k σ) {v:Nat} (hv:v<100) {x:List Int} {a:Addr} {c:Nat} (hu:IntsAt w (some a) x) (hc:x.length≤c) (hn:x≠[]) (ha:a.block<N) :
  PassAt N (w.setCell ⟨A,v,none⟩ (.slice (some a) x.length c)) aB tB sB A b L ao cap u k (updT σ v x):=by
 have hk:Kept (fun i=>i=A) w (w.setCell ⟨A,v,none⟩ (.slice (some a) x.length c)):=Kept.setCell (p:=⟨A,v,none⟩) (Kept.refl (fun i=>i=A) w) (fun _=>rfl) _
 obtain ⟨n1,n2,n3,n4,n5,n6,n7,n8,n9⟩:=h.ne
 have hlo:∀ i,i<N→¬ i=A:=fun i hi e=>by omega
 exact ⟨hk.at h.a0 n7,hk.at h.t0 n8,hk.at h.s0 n9,h.tab.put n4 hv hu hc hn ha,h.ints.kept hk (fun a e=>hlo _ (h.ub a e)),h.ub,h.uc,h.um,h.sg.kept hk hlo,h.ne⟩
theorem Kept.two {a A:Nat} {w w1:World} (h:Kept (fun i=>i=a) w w1):Kept (fun i=>i=a∨i=A) w w1:=h.mono (fun _ _ e=>.inl e)
theorem Kept.setRow {S:Nat→Prop} {a w:World} (h:Kept S a w) {g:Nat} (hg:g<a.heap.size→S g) (cs:Array Value):Kept S a (w.setRow g cs):=
 h.trans (S' := fun k=>k=g) ⟨rfl,rfl,rfl,by simp [World.setRow],fun k _ hn=>by simp only [World.setRow,Array.getElem?_modify];rw [if_neg (fun e=>hn e.symm)]⟩ (fun i hi e=>by subst e;exact hg hi)
theorem TabV.one {N:Nat} {w:World} {cs:Array Value} {σ:Tb} (h:TabV N w cs σ):cs.all (·.oneCell')=true:=by
 rw [Array.all_eq_true]
 intro i hi
 obtain ⟨ao,cap,h1,_⟩:=h.2 i (by have:=h.1;omega)
 rw [Array.getElem?_eq_getElem hi] at h1
 simp only [Option.some.injEq] at h1
 rw [h1];rfl
structure WalkAt (Z:Array Value) (w wr:World) (b:Nat) (L:List Sym) (po:Option Addr) (p:List Int) (ao:Option Addr) (cap:Nat) (u:List Int) (i k:Nat) (σ:Tb):Prop where
 pass:PassAt w.heap.size wr (w.heap.size+1+1+1+1) (w.heap.size+1) w.heap.size (w.heap.size+1+1+1) b L ao cap u k σ
 res:wr.heap[w.heap.size+1+1]? = some (.cells Z 144 (0,0))
 pat:IntsAt wr po p
 mw:Proofs.YtoajbpmgoklflaaGreat.mw L p u noT=Proofs.YtoajbpmgoklflaaGreat.mw L (p.drop i) (u.drop k) σ
 even:Even L (p.drop i) (u.drop k)
 kle:k≤u.length
 bnd:Bnd σ
 kept:Kept (From w.heap.size) w wr
theorem WalkAt.next {Z:Array Value} {w wr w' : World} {b:Nat} {L:List Sym} {po:Option Addr} {p:List Int} {ao:Option Addr} {cap:Nat} {u:List Int} {i k k' : Nat} {σ σ' : Tb} (h:WalkAt Z w wr b L po p ao cap u i k σ) (hpo:∀ a,po=some a→p=[]∨a.block<w.heap.size)
  (h1:PassAt w.heap.size w' (w.heap.size+1+1+1+1) (w.heap.size+1) w.heap.size (w.heap.size+1+1+1) b L ao cap u k' σ') (h2:Kept (fun i=>i=w.heap.size+1+1+1+1∨i=w.heap.size+1+1+1) wr w')
  (h3:Proofs.YtoajbpmgoklflaaGreat.mw L (p.drop i) (u.drop k) σ=Proofs.YtoajbpmgoklflaaGreat.mw L (p.drop (i+1)) (u.drop k') σ') (h4:Even L (p.drop (i+1)) (u.drop k')) (h5:k' ≤ u.length) (h6:Bnd σ'):WalkAt Z w w' b L po p ao cap u (i+1) k' σ' := by
 refine ⟨h1,h2.at h.res (by omega),?_,h.mw.trans h3,h4,h5,h6,h.kept.trans h2 (fun i hi e=>by rcases e with e | e <;> omega)⟩
 rcases h.pat with e | ⟨b', off,e,hlt,hc⟩
 ·exact .inl e
 ·subst e
  rcases hpo _ rfl with e | e
  ·exact .inl e
  ·exact IntsAt.kept (.inr ⟨b', off,rfl,hlt,hc⟩) h2 (fun a ea=>by cases ea;rintro (f | f) <;> (simp only at f e;omega))
def bcells (l:List (Int × Value)):List Value:=l.flatMap (fun p=>[.int .i64 p.1,p.2])
theorem bcells_snoc (l:List (Int × Value)) (p:Int × Value):bcells (l ++ [p])=bcells l ++ [.int .i64 p.1,p.2]:=by simp [bcells]
theorem bcells_at {l:List (Int × Value)} {i:Nat} (h:i<l.length):(bcells l)[i * 2]? = some (.int .i64 l[i].1)∧(bcells l)[i * 2+1]? = some l[i].2:=by
 induction l generalizing i with
 | nil=>simp at h
 | cons x r ih=>
  have e:bcells (x :: r)=.int .i64 x.1 :: x.2 :: bcells r:=by simp [bcells]
  rw [e]
  cases i with
  | zero=>simp
  | succ j=>
   obtain ⟨a,b⟩:=ih (i:=j) (by simpa using h)
   have e1:(j+1) * 2=j * 2+1+1:=by omega
   rw [e1]
   exact ⟨by simpa using a,by simpa using b⟩
structure BOwn (base:Nat) (w:World) (v:Value) (l:List (Int × Value)) (bs:List Bd):Prop where
 row:w.ownsRow base 201 2 v l.length (bcells l)
 len:l.length=bs.length
 each:∀ i (h:i<l.length) (h' : i<bs.length),l[i].1=bs[i].1∧Row base w l[i].2 bs[i].2∧∀ k,l[i].2.ownBlock=some k→v.ownBlock≠some k
 apart:∀ i j (hi:i<l.length) (hj:j<l.length),i≠j→∀ k,l[i].2.ownBlock=some k→l[j].2.ownBlock≠some k
theorem BOwn.nil (base:Nat) (w:World):BOwn base w (.slice none 0 0) [] []:=⟨World.ownsRow_nil _ _ _ _,rfl,fun i h=>by simp at h,fun i j h=>by simp at h⟩
theorem BOwn.kept {base:Nat} {w w' : World} {v:Value} {l:List (Int × Value)} {bs:List Bd} {S:Nat→Prop} (h:BOwn base w v l bs) (hk:Kept S w w') (hs:∀ k,base≤k→k<w.heap.size→¬ S k):BOwn base w' v l bs:=
 ⟨hk.row h.row (fun k e=>hs k (h.row.lt k e).1 (h.row.lt k e).2),h.len,fun i h1 h2=>⟨(h.each i h1 h2).1,hk.row (h.each i h1 h2).2.1 (fun k e=>hs k ((h.each i h1 h2).2.1.lt k e).1 ((h.each i h1 h2).2.1.lt k e).2),(h.each i h1 h2).2.2⟩,h.apart⟩
theorem BOwn.same {base:Nat} {w w' : World} {v:Value} {l:List (Int × Value)} {bs:List Bd} (h:BOwn base w v l bs) (hk:Same0 w w'):BOwn base w' v l bs:=h.kept hk (fun _ _ _ f=>f)
theorem BOwn.more {base:Nat} {wr w1 w2:World} {lv tv:Value} {l:List (Int × Value)} {bs:List Bd} {n:Int} {xs:List Int} {g cap:Nat} (h:BOwn base wr lv l bs) (k1:Same0 wr w1) (hb:base≤wr.heap.size) (ht:Row wr.heap.size w1 tv xs)
  (hr:w2.ownsRow base 201 2 (.slice (some ⟨g,0,none⟩) (l.length+1) cap) (l.length+1) (bcells l ++ [.int .i64 n,tv])) (k2:Kept (fun k=>lv.ownBlock=some k) w1 w2) (hat:lv.ownBlock=some g∨w1.heap.size≤g) :
  BOwn base w2 (.slice (some ⟨g,0,none⟩) (l.length+1) cap) (l ++ [(n,tv)]) (bs ++ [(n,xs)]):=by
 have z1:=k1.size
 have hl:=h.len
 have own:∀ k,lv.ownBlock=some k→k<wr.heap.size:=fun k e=>(h.row.lt k e).2
 have tl:∀ k,tv.ownBlock=some k→wr.heap.size≤k∧k<w1.heap.size:=fun k e=>ht.lt k e
 have ol:∀ i (hi:i<l.length) k,l[i].2.ownBlock=some k→k<wr.heap.size:=fun i hi k e=>((h.each i hi (by omega)).2.1.lt k e).2
 refine ⟨?_,by simp [hl],fun i h1 h2=>?_,fun i j hi hj hij k e=>?_⟩
 ·rw [bcells_snoc,List.length_append];exact hr
 ·by_cases hi:i<l.length
  ·have hi' : i<bs.length:=by omega
   obtain ⟨e1,e2,e3⟩:=h.each i hi hi'
   rw [List.getElem_append_left hi,List.getElem_append_left hi']
   refine ⟨e1,k2.row (k1.row e2 (fun _ _ f=>f)) (fun k e=>e3 k e),fun k e=>?_⟩
   simp only [Value.ownBlock,ne_eq,Option.some.injEq]
   rintro rfl
   rcases hat with y | y
   ·exact e3 _ e y
   ·have:=ol i hi _ e;omega
  ·have hi2:i=l.length:=by simp at h1;omega
   subst hi2
   have e1:(l ++ [(n,tv)])[l.length]=(n,tv):=by simp
   have e2:(bs ++ [(n,xs)])[l.length]=(n,xs):=by simp [hl]
   rw [e1,e2]
   refine ⟨rfl,row_mono (k2.row ht (fun k e f=>by have:=own k f;have:=(tl k e).1;omega)) hb,fun k e=>?_⟩
   simp only [Value.ownBlock,ne_eq,Option.some.injEq]
   rintro rfl
   have:=tl _ e
   rcases hat with y | y
   ·have:=own _ y;omega
   ·omega
 ·by_cases hi1:i<l.length
  ·rw [List.getElem_append_left hi1] at e
   by_cases hj1:j<l.length
   ·rw [List.getElem_append_left hj1]
    exact h.apart i j hi1 hj1 hij k e
   ·have:j=l.length:=by simp at hj;omega
    subst this
    have e1:(l ++ [(n,tv)])[l.length]=(n,tv):=by simp
    rw [e1]
    intro y
    have:=(tl k y).1;have:=ol i hi1 k e;omega
  ·have hi2:i=l.length:=by simp at hi;omega
   subst hi2
   have e1:(l ++ [(n,tv)])[l.length]=(n,tv):=by simp
   rw [e1] at e
   have hj1:j<l.length:=by simp at hj;omega
   rw [List.getElem_append_left hj1]
   intro y
   have:=(tl k e).1;have:=ol j hj1 k y;omega
def BindsAt (w:World) (lo:Option Addr) (bs:List Bd):Prop:=
 bs=[]∨∃ b off,lo=some ⟨b,off,none⟩∧b<w.heap.size∧∀ i (h:i<bs.length),w.cell? ⟨b,off+i * 2,none⟩=some (.int .i64 bs[i].1)∧∃ ao cap,w.cell? ⟨b,off+i * 2+1,none⟩=some (.slice ao bs[i].2.length cap)∧IntsAt w ao bs[i].2∧bs[i].2.length≤cap∧(ao=none→bs[i].2.length=0∧cap=0)
theorem BindsAt.same {w w' : World} {lo:Option Addr} {bs:List Bd} (h:BindsAt w lo bs) (hk:Same0 w w'):BindsAt w' lo bs:=by
 refine h.imp id ?_
 rintro ⟨b,off,rfl,hlt,hc⟩
 refine ⟨b,off,rfl,Nat.lt_of_lt_of_le hlt hk.size,fun i hi=>?_⟩
 obtain ⟨c1,ao,cap,c2,c3,c4,c5⟩:=hc i hi
 exact ⟨(hk.cell (p:=⟨b,off+i * 2,none⟩) hlt (fun f=>f)).trans c1,ao,cap,(hk.cell (p:=⟨b,off+i * 2+1,none⟩) hlt (fun f=>f)).trans c2,c3.same hk,c4,c5⟩
theorem BindsAt.get {w:World} {lo:Option Addr} {bs:List Bd} (h:BindsAt w lo bs) {i:Nat} (hi:i<bs.length):∃ b off ao cap,lo=some ⟨b,off,none⟩∧b<w.heap.size∧w.cell? ⟨b,off+i * 2,none⟩=some (.int .i64 bs[i].1)∧w.cell? ⟨b,off+i * 2+1,none⟩=some (.slice ao bs[i].2.length cap)∧IntsAt w ao bs[i].2∧bs[i].2.length≤cap∧(ao=none→bs[i].2.length=0∧cap=0):=by
 rcases h with rfl | ⟨b,off,e,hlt,hc⟩
 ·simp at hi
 ·obtain ⟨c1,ao,cap,c2,c3,c4,c5⟩:=hc i hi
  exact ⟨b,off,ao,cap,e,hlt,c1,c2,c3,c4,c5⟩
theorem BOwn.at' {base:Nat} {w:World} {v:Value} {l:List (Int × Value)} {bs:List Bd} (h:BOwn base w v l bs):∃ lo cap,v=.slice lo bs.length cap∧BindsAt w lo bs∧bs.length≤cap:=by
 have hl:=h.len
 rcases h.row.2 with ⟨rfl,h0⟩ | ⟨g,cap,cur,rfl,hb,hg,h1,h2,h3,h4⟩
 ·have:bs=[]:=List.eq_nil_of_length_eq_zero (by omega)
  subst this
  exact ⟨none,0,rfl,.inl rfl,Nat.le_refl _⟩
 ·refine ⟨some ⟨g,0,none⟩,cap,by rw [hl],.inr ⟨g,0,rfl,lt_of_at hg,fun i hi=>?_⟩,by omega⟩
  have hi' : i<l.length:=by omega
  obtain ⟨e1,e2,e3⟩:=h.each i hi' hi
  obtain ⟨x1,x2⟩:=bcells_at hi'
  obtain ⟨ao,c,y1,y2,y3,y4⟩:=e2.ints
  rw [Nat.zero_add]
  refine ⟨(h.row.cellAt (i * 2) (by omega)).trans (by rw [x1,e1]),ao,c,(h.row.cellAt (i * 2+1) (by omega)).trans (by rw [x2,y1]),y2,y3,fun e=>?_⟩
  subst e
  rcases e2.2 with ⟨z1,z2⟩ | ⟨g', c', cur', z1,_⟩
  ·rw [y1] at z1;simp only [Value.slice.injEq,true_and] at z1;exact z1
  ·rw [y1] at z1;simp at z1
def tabF (L:List Sym):List Bd→Tb→Except Int Tb
 | [],σ=>.ok σ
 | b :: r,σ=>if b.1<1∨99<b.1∨σ b.1.toNat≠[] then .error 50 else if checkE L b.2≠0 then .error (checkE L b.2) else tabF L r (updT σ b.1.toNat b.2)
structure TabW (Z:Array Value) (w wr:World) (L:List Sym) (bs:List Bd) (i:Nat) (σ:Tb):Prop where
 tab:TabAt w.heap.size wr (w.heap.size+1) σ
 res:wr.heap[w.heap.size]? = some (.cells Z 144 (0,0))
 eq:tabF L bs noT=tabF L (bs.drop i) σ
 bnd:Bnd σ
 kept:Same0 w wr
end Go.Proofs.YtoajbpmgoklflaaGreat
namespace Go.Proofs.YtoajbpmgoklflaaGreat
set_option linter.unusedVariables false
def vn (n:Int):Nat:=(-n).toNat
end Go.Proofs.YtoajbpmgoklflaaGreat
namespace Go.Proofs.YtoajbpmgoklflaaGreat
set_option maxRecDepth 100000
set_option linter.unusedVariables false
open Go.RowKit
attribute [local go_sem ↓] Go.wp_at_zero Go.wp_at_succ
end Go.Proofs.YtoajbpmgoklflaaGreat
namespace Go.Proofs.YtoajbpmgoklflaaGreat
set_option linter.unusedVariables false
structure Ren (f f' : Int→Int) (n:Int):Prop where
 back:f' (f n)=n
 neg:n<0→f n<0
 pos:0≤n→f n=n
theorem ren_mem {f f' : Int→Int} {o:List Int} {x:Int} (ho:∀ n∈o,Ren f f' n) (hx:Ren f f' x):f x∈o.map f ↔ x∈o:=by
 rw [List.mem_map]
 constructor
 ·rintro ⟨y,hy,e⟩
  have:=congrArg f' e
  rw [(ho y hy).back,hx.back] at this
  rw [← this];exact hy
 ·intro h;exact ⟨x,h,rfl⟩
theorem ren_idx {f f' : Int→Int}:∀ {o:List Int} {x:Int},(∀ n∈o,Ren f f' n)→Ren f f' x→(o.map f).idxOf (f x)=o.idxOf x
 | [],x,_,_=>rfl
 | y :: r,x,ho,hx=>by
  rw [List.map_cons,List.idxOf_cons,List.idxOf_cons,ren_idx (fun n hn=>ho n (by simp [hn])) hx]
  by_cases e:y=x
  ·subst e;simp
  ·have:¬ f y=f x:=fun g=>e (by have:=congrArg f' g;rwa [(ho y (by simp)).back,hx.back] at this)
   have h1:(y == x)=false:=by simpa using e
   have h2:(f y == f x)=false:=by simpa using this
   rw [h1,h2]
theorem wrF_ren {f f' : Int→Int} (u:List Int):∀ (o:List Int),(∀ n∈o,Ren f f' n)→(∀ n∈u,Ren f f' n)→wrF (o.map f) (u.map f)=wrF o u:=by
 induction u with
 | nil=>intro o _ _;rfl
 | cons x r ih=>
  intro o ho hu
  have hx:=hu x (by simp)
  have ev:vzs (o.map f) (f x)=(vzs o x).map f:=by
   unfold vzs
   by_cases h:x<0∧¬ x∈o
   ·rw [if_pos h,if_pos ⟨hx.neg h.1,fun g=>h.2 ((ren_mem ho hx).1 g)⟩];simp
   ·rw [if_neg h,if_neg (fun g=>h ⟨by
     by_cases q:x<0
     ·exact q
     ·have:=hx.pos (by omega);omega,fun q=>g.2 ((ren_mem ho hx).2 q)⟩)]
  have hv:∀ n∈vzs o x,Ren f f' n:=by
   intro n hn
   unfold vzs at hn
   split at hn
   ·rcases List.mem_append.1 hn with q | q
    ·exact ho n q
    ·simp only [List.mem_cons,List.not_mem_nil,or_false] at q;subst q;exact hx
   ·exact ho n hn
  rw [List.map_cons,wrF,wrF,ev,ih _ hv (fun n hn=>hu n (by simp [hn]))]
  congr 1
  unfold rn
  by_cases h:x<0
  ·rw [if_pos h,if_pos (hx.neg h),ren_idx hv hx]
  ·rw [if_neg h,if_neg (by rw [hx.pos (by omega)];exact h),hx.pos (by omega)]
theorem sub_one {L:List Sym} {g:Int→List Int}:∀ (u:List Int),(∀ n∈u,n<0→IsT L (g n))→(subV g u).length=u.length→subV g u=u.map (fun n=>if n<0 then (g n).headD 0 else n)
 | [],_,_=>rfl
 | n :: r,h,e=>by
  have h1:=subV_len r (fun m hm=>h m (by simp [hm]))
  rw [subV_cons,List.length_append,List.length_cons] at e
  rw [subV_cons,List.map_cons]
  by_cases hn:n<0
  ·have h2:=isT_pos (h n (by simp) hn)
   rw [if_pos hn] at e ⊢
   rw [if_pos hn]
   have h3:(g n).length=1:=by omega
   obtain ⟨y,hy⟩:=List.length_eq_one_iff.1 h3
   rw [sub_one r (fun m hm=>h m (by simp [hm])) (by omega),hy];rfl
  ·rw [if_neg hn] at e ⊢
   rw [if_neg hn]
   simp only [List.length_cons,List.length_nil] at e
   rw [sub_one r (fun m hm=>h m (by simp [hm])) (by omega)];rfl
theorem both_ways {L:List Sym} {u v:List Int} {g g' : Int→List Int} (h1:∀ n∈u,n<0→IsT L (g n)) (h2:∀ n∈v,n<0→IsT L (g' n)) (e1:v=subV g u) (e2:u=subV g' v):wrF [] v=wrF [] u:=by
 have l1:=subV_len u h1
 have l2:=subV_len v h2
 rw [← e1] at l1
 rw [← e2] at l2
 have m1:=sub_one u h1 (by rw [← e1];omega)
 have m2:=sub_one v h2 (by rw [← e2];omega)
 rw [← e1] at m1
 rw [← e2] at m2
 obtain ⟨f,hf⟩:∃ f:Int→Int,f=fun n=>if n<0 then (g n).headD 0 else n:=⟨_,rfl⟩
 obtain ⟨f', hf'⟩:∃ f:Int→Int,f=fun n=>if n<0 then (g' n).headD 0 else n:=⟨_,rfl⟩
 rw [← hf] at m1
 rw [← hf'] at m2
 have hb:∀ n∈u,f' (f n)=n:=by
  have:u=u.map (fun n=>f' (f n)):=by rw [m1,List.map_map] at m2;exact m2
  intro n hn
  obtain ⟨i,hi,rfl⟩:=List.getElem_of_mem hn
  have h3:=congrArg (fun l=>l[i]?) this
  simp only [List.getElem?_map,List.getElem?_eq_getElem hi,Option.map_some,Option.some.injEq] at h3
  exact h3.symm
 have hpos:∀ n,0≤n→f n=n:=fun n hn=>by rw [hf];simp only;rw [if_neg (by omega)]
 have hpos' : ∀ n,0≤n→f' n=n:=fun n hn=>by rw [hf'];simp only;rw [if_neg (by omega)]
 have hr:∀ n∈u,Ren f f' n:=fun n hn=>⟨hb n hn,fun hn0=>by
  by_cases q:f n<0
  ·exact q
  ·have:=hb n hn;rw [hpos' _ (by omega)] at this;omega,hpos n⟩
 have:=wrF_ren u [] (by simp) hr
 rw [m1];exact this
theorem subV_flat {α:Type} (f:Int→List Int) (g:α→List Int) (l:List α):subV f (l.flatMap g)=l.flatMap (fun k=>subV f (g k)):=by
 induction l with
 | nil=>rfl
 | cons x r ih=>rw [List.flatMap_cons,List.flatMap_cons,subV_append,ih]
theorem subV_sh (f:Int→List Int) {ap:Int} (h:0≤ap) (b:List Int):subV f (b.map (shF ap))=subV (fun n=>f (n-ap)) b:=by
 induction b with
 | nil=>rfl
 | cons n r ih=>
  rw [List.map_cons,subV_cons,subV_cons,ih]
  congr 1
  unfold shF
  by_cases hn:n<0
  ·rw [if_pos hn,if_pos (by omega),if_pos hn]
  ·rw [if_neg hn,if_neg hn,if_neg hn]
def ComU (L:List Sym) (a b:List Int) (ap:Int) (u:List Int):Prop:=∃ ld k,solF L (jl a b ap) a.length=some (ld,k)∧Closed L (jl a b ap) a.length ld∧Val L (jl a b ap) ld 0 u∧k=min (u.length:Int) 2001
theorem ComU.uniq {L:List Sym} {a b:List Int} {ap:Int} {u v:List Int} (h:ComU L a b ap u) (k:ComU L a b ap v):u=v:=by
 obtain ⟨ld,k1,h1,_,h2,_⟩:=h
 obtain ⟨ld', k2,g1,_,g2,_⟩:=k
 rw [h1] at g1
 simp only [Option.some.injEq,Prod.mk.injEq] at g1
 obtain ⟨rfl,rfl⟩:=g1
 exact h2.uniq g2
theorem ComU.com {L:List Sym} {a b:List Int} {ap:Int} {u:List Int} (ha:checkE L a=0) (hb:checkE L b=0) (h:ComU L a b ap u):(2000<u.length→comE L a b ap=20)∧(u.length≤2000→comE L a b ap=0∧comT L a b ap=wrF [] u):=by
 obtain ⟨ld,k,h1,_,h2,h3⟩:=h
 have e:comE L a b ap=if 2000<k then 20 else 0:=by
  unfold comE
  rw [if_neg (by simpa using ha),if_neg (by simpa using hb),h1]
 refine ⟨fun hl=>by rw [e,if_pos (by omega)],fun hl=>?_⟩
 rw [if_neg (by omega)] at e
 refine ⟨e,?_⟩
 unfold comT
 rw [if_pos e,h1]
 simp only
 rw [h2.tm (n:=2000) (by omega)];rfl
theorem com_u {L:List Sym} {a b:List Int} {ap:Nat} (hap:ap≤99) (ha:checkE L a=0) (hb:checkE L b=0):solF L (jl a b ap) a.length=none∨∃ u,ComU L a b ap u:=by
 obtain ⟨x1,x2,x3⟩:=checkE_zero.1 ha
 obtain ⟨y1,y2,y3⟩:=checkE_zero.1 hb
 have hT:=trs_jl (apart:=(ap:Int)) (by omega) x3 y3
 have hv:∀ x∈jl a b ap, -198≤x:=by
  intro x hx
  unfold jl at hx
  rcases List.mem_append.1 hx with e | e
  ·have:=(badE_zero.1 x2 x e).2;omega
  ·obtain ⟨y,hy,rfl⟩:=List.mem_map.1 e
   have:=(badE_zero.1 y2 y hy).2
   unfold shF;split <;> omega
 have p1:=isT_pos x3
 have p2:=isT_pos y3
 have hl:(jl a b ap).length=a.length+b.length:=by simp [jl]
 cases hs:solF L (jl a b ap) a.length with
 | none=>exact .inl rfl
 | some v=>
  obtain ⟨ld,k⟩:=v
  right
  obtain ⟨res,hU,hR1,hR2⟩:=(sol_any hT hv (m:=a.length) (by omega) (by omega)).uni
  cases res with
  | none=>rw [hR1 rfl] at hs;cases hs
  | some ld' =>
   obtain ⟨g1,k', sz', g2,g3,g4⟩:=hR2 ld' rfl
   by_cases e:k' = -1
   ·rw [g3 e] at hs;cases hs
   ·obtain ⟨f1,u,f2,f3⟩:=g4 e
    rw [f1] at hs
    simp only [Option.some.injEq,Prod.mk.injEq] at hs
    obtain ⟨rfl,rfl⟩:=hs
    exact ⟨u,ld', k', f1,closed_of hv (by omega) (by omega) hU,f2,f3⟩
theorem jl_low {L:List Sym} {a b:List Int} (ha:checkE L a=0) (hb:checkE L b=0) {ap:Nat} (hap:ap≤99):∀ x∈jl a b ap, -198≤x:=by
 intro x hx
 unfold jl at hx
 rcases List.mem_append.1 hx with e | e
 ·have:=(badE_zero.1 (checkE_zero.1 ha).2.1 x e).2;omega
 ·obtain ⟨y,hy,rfl⟩:=List.mem_map.1 e
  have:=(badE_zero.1 (checkE_zero.1 hb).2.1 y hy).2
  unfold shF;split <;> omega
theorem most_com {L:List Sym} {a b:List Int} (ha:checkE L a=0) (hb:checkE L b=0) {fa fb:Int→List Int} (ta:∀ n∈a,n<0→IsT L (fa n)) (tb:∀ n∈b,n<0→IsT L (fb n)) {T:List Int} (e1:subV fa a=T) (e2:subV fb b=T) :
  ∃ u g,ComU L a b 99 u∧T=subV g u∧(∀ n∈u,n<0→IsT L (g n)):=by
 obtain ⟨x1,x2,x3⟩:=checkE_zero.1 ha
 obtain ⟨y1,y2,y3⟩:=checkE_zero.1 hb
 have hT:=trs_jl (apart:=(99:Int)) (by omega) x3 y3
 have hv:∀ x∈jl a b 99, -198≤x:=jl_low ha hb (ap:=99) (by omega)
 have p1:=isT_pos x3
 have p2:=isT_pos y3
 have hl:(jl a b 99).length=a.length+b.length:=by simp [jl]
 obtain ⟨vv,hvv⟩:∃ vv:Int→List Int,vv=fun n=>if -99≤n then (if n∈a then fa n else [n]) else (if n+99∈b then fb (n+99) else [n]):=⟨_,rfl⟩
 have vT:∀ n,n<0→IsT L (vv n):=by
  intro n hn
  rw [hvv]
  simp only
  by_cases h : -99≤n
  ·rw [if_pos h]
   by_cases q:n∈a
   ·rw [if_pos q];exact ta n q hn
   ·rw [if_neg q];exact isT_var L hn
  ·rw [if_neg h]
   by_cases q:n+99∈b
   ·rw [if_pos q];exact tb _ q (by omega)
   ·rw [if_neg q];exact isT_var L hn
 have va:subV vv a=T:=by
  rw [← e1]
  refine subV_congr a (fun n hn h0=>?_)
  rw [hvv]
  simp only
  rw [if_pos ((badE_zero.1 x2 n hn).2),if_pos hn]
 have vb:subV vv (b.map (shF 99))=T:=by
  rw [subV_sh vv (by omega),← e2]
  refine subV_congr b (fun n hn h0=>?_)
  rw [hvv]
  simp only
  rw [if_neg (by omega),if_pos (by rw [Int.sub_add_cancel];exact hn),Int.sub_add_cancel]
 obtain ⟨val,hval⟩:∃ val:Int→List Int,val=fun x=>if x<0 then vv x else subV vv (cutJ L (jl a b 99) x.toNat):=⟨_,rfl⟩
 have vn:∀ n,n<0→val n=vv n:=fun n hn=>by rw [hval];simp only;rw [if_pos hn]
 have vp:∀ p:Nat,val p=subV vv (cutJ L (jl a b 99) p):=fun p=>by rw [hval];simp only;rw [if_neg (by omega),Int.toNat_natCast]
 have hg:Good L (jl a b 99) val:=by
  refine ⟨fun p hp hs=>?_,fun p hp hs=>?_,fun x hx=>?_⟩
  ·rw [vp,cut_sym hT hp,subV_cons,if_neg (by omega),subV_flat]
   simp only [vp];rfl
  ·rw [vp,cut_sym hT hp,subV_cons,if_pos hs,vn _ hs]
   have:kidsL L (jl a b 99) p=[]:=by unfold kidsL;rw [show arN L (at' (jl a b 99) p)=0 by unfold arN;rw [if_pos hs]];rfl
   rw [this];simp [subV]
  ·by_cases h:x<0
   ·rw [vn x h];exact vT x h
   ·obtain ⟨p,rfl⟩:=Int.eq_ofNat_of_zero_le (Int.not_lt.1 h)
    have:=vp p
    show IsT L (val (p:Int))
    rw [this]
    unfold IsT
    rw [need_subV _ (fun n _ hn=>vT n hn)]
    exact cut_isT hT (by have:=hx.2;omega)
 have c0:val 0=T:=by
  have:=vp 0
  rw [show ((0:Nat):Int)=0 from rfl] at this
  rw [this,← va]
  congr 1
  unfold cutJ
  rw [show endN L (jl a b 99) 0=a.length from end_first (b:=b.map (shF 99)) x3]
  unfold jl
  rw [List.drop_zero,Nat.sub_zero,List.take_left]
 have cm:val (a.length:Nat)=T:=by
  rw [vp,← vb]
  congr 1
  unfold cutJ
  rw [show endN L (jl a b 99) a.length=a.length+(b.map (shF 99)).length from end_second (a:=a) (isT_sh (by omega) y3)]
  unfold jl
  rw [List.drop_left,Nat.add_sub_cancel_left,List.take_length]
 obtain ⟨ld,k,u,hs,hcl,hu,hk,he,_⟩:=sol_good hT hv (m:=a.length) (by omega) (by omega) hg (by rw [c0,cm])
 refine ⟨u,val,⟨ld,k,hs,hcl,hu,hk⟩,by rw [← c0];exact he,fun n hn h0=>?_⟩
 rw [vn n h0];exact vT n h0
theorem inst_com {L:List Sym} {a b:List Int} (ha:checkE L a=0) (hb:checkE L b=0) {ap:Nat} (hap:ap≤99) {u:List Int} (h:ComU L a b ap u):∃ f:Int→List Int,(∀ n,n<0 → -198≤n→IsT L (f n))∧u=subV f a∧u=subV (fun n=>f (n-ap)) b∧IsT L u∧(∀ n∈u,0≤n→n<(L.length:Int)):=by
 obtain ⟨x1,x2,x3⟩:=checkE_zero.1 ha
 obtain ⟨y1,y2,y3⟩:=checkE_zero.1 hb
 obtain ⟨ld,k,h1,hc,hu,h3⟩:=h
 have p1:=isT_pos x3
 have hl:(jl a b ap).length=a.length+b.length:=by simp [jl]
 obtain ⟨f,hf⟩:=varT_some L (jl a b ap) ld
 obtain ⟨e1,e2⟩:=both_sub (by omega) x3 y3 hc hf hu
 have p0:UPart (jl a b ap) 0:=part_nat (p:=0) (by omega)
 refine ⟨f,fun n hn h=>hf.isT hc.trs hc.ok hn ⟨h,by omega⟩,e1,by rw [← subV_sh f (by omega)];exact e2,hu.isT hc.trs hc.ok p0,fun n hn h0=>?_⟩
 rcases hu.in hc.trs hc.ok p0 n hn with ⟨q,_⟩ | ⟨_,q⟩
 ·omega
 ·unfold jl at q
  rcases List.mem_append.1 q with e | e
  ·exact (badE_zero.1 x2 n e).1
  ·obtain ⟨y,hy,hy2⟩:=List.mem_map.1 e
   have:=(badE_zero.1 y2 y hy).1
   unfold shF at hy2
   split at hy2 <;> omega
theorem com_swap {L:List Sym} {a b:List Int} (ha:checkE L a=0) (hb:checkE L b=0) {u:List Int} (h:ComU L b a 99 u):∃ v,ComU L a b 99 v∧v.length=u.length∧wrF [] u=wrF [] v:=by
 have step:∀ (a b:List Int),checkE L a=0→checkE L b=0→∀ u,ComU L b a 99 u→∃ v g,ComU L a b 99 v∧u=subV g v∧(∀ n∈v,n<0→IsT L (g n)):=by
  intro a b ha hb u h
  obtain ⟨f,h1,h2,h3,_⟩:=inst_com hb ha (ap:=99) (by omega) h
  have la:=fun n hn=>(badE_zero.1 (checkE_zero.1 ha).2.1 n hn).2
  have lb:=fun n hn=>(badE_zero.1 (checkE_zero.1 hb).2.1 n hn).2
  exact most_com ha hb (fa:=fun n=>f (n-((99:Nat):Int))) (fb:=f) (fun n hn h0=>h1 _ (by omega) (by have:=la n hn;omega)) (fun n hn h0=>h1 n h0 (by have:=lb n hn;omega)) h3.symm h2.symm
 obtain ⟨v,g,h1,h2,h3⟩:=step a b ha hb u h
 obtain ⟨u', g', k1,k2,k3⟩:=step b a hb ha v h1
 have:=k1.uniq h
 subst this
 have e:=both_ways h3 k3 h2 k2
 have hl:=congrArg List.length e
 rw [wrF_length,wrF_length] at hl
 exact ⟨v,h1,hl.symm,e⟩
end Go.Proofs.YtoajbpmgoklflaaGreat
