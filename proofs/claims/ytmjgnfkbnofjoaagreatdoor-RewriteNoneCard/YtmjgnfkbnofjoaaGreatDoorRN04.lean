import Derived.WalkKit
import Derived.Test.YtmjgnfkbnofjoaaGreatDoorRN03
import Derived.Laws.AppendOwnNone
import Derived.Deep.WholeRow
namespace Go.Proofs.YtmjgnfkbnofjoaaGreatDoor
open Go.Proofs.Tryz
set_option maxRecDepth 100000
set_option linter.unusedVariables false
set_option maxHeartbeats 4000000
variable {a:Act} {ops:Array Oper} {Z cs old:Array Value} {Q:Exit->Act->World->Prop} {x:Int} {l:List (Int × Value)} {bs r:List Bd} {o p t u xs:List Int} {rest:List Oper} {L:List Sym} {A N aB b base cap g i k m n pcap sB tB v:Nat} {S:Nat->Prop} {ao lo po:Option Addr} {w w' w0 w1 wr:World}
section
open Go.RowKit
attribute [local go_sem ↓] Go.wp_at_zero Go.wp_at_succ
theorem Zvx (x:Int) (w:World):Calls prog 232 #[.int .i64 x] w λ e w' => e=.returned (.bool (isV x))∧w' = w:=by
 by_cases h1:x<0
 ·by_cases h2 : -99<=x
  ·have H:Hid (isV x=true):=by show _=_;simp [isV];omega
   go_enter func232,ntmps232
   go_wp2;go_ret;exact ⟨by rw [H.out];rfl,rfl⟩
  ·have H:Hid (isV x=false):=by show _=_;simp [isV];omega
   go_enter func232,ntmps232
   go_wp2;go_ret;exact ⟨by rw [H.out];rfl,rfl⟩
 ·have H:Hid (isV x=false):=by show _=_;simp [isV];omega
  go_enter func232,ntmps232
  go_wp2;go_ret;exact ⟨by rw [H.out];rfl,rfl⟩
def inB (l:List Int) (n:Int):Bool:=decide (n∈l)
theorem Zqq {l:List Int} (hl:Zh w ao l) (n:Int) (hm:l.length<=maxLen):Calls prog 224 #[.slice ao l.length cap,.int .i64 n] w λ e w' => e=.returned (.bool (inB l n))∧w' = w:=by
 unfold maxLen at hm
 go_enter func224,ntmps224
 go_wp2
 go_loop [5] (λ i=>∃ k:Nat,k<=l.length∧i=.int .i64 (k:Int)∧Hid (¬ n∈l.take k)) (λ i=>l.length-(intOf i).toNat)
 case atStart=>exact ⟨0,Nat.zero_le _,rfl,by simp [Hid]⟩
 case round=>
  obtain ⟨k,hk,rfl,hn⟩:=hrel
  by_cases hlt:k<l.length
  ·obtain ⟨b,off,rfl,_,hc⟩:=hl.get hlt
   have i1:(0:Int)<=(k:Int):=by omega
   have i2:(k:Int)<(l.length:Int):=by omega
   by_cases he:l[k]=n
   ·have H:Hid (inB l n=true):=by show _=_;simp [inB];rw [<- he];exact List.getElem_mem hlt
    have he' : (l[k] == n)=true:=by simpa using he
    go_wp2;go_ret;exact ⟨by rw [H.out];rfl,rfl⟩
   ·have he' : (l[k] == n)=false:=by simpa using he
    have hn' : Hid (¬ n∈l.take (k+1)):=by
     rw [List.take_add_one,List.getElem?_eq_getElem hlt];intro hh
     rcases List.mem_append.1 hh with hh | hh
     ·exact hn.out hh
     ·simp at hh;exact he hh.symm
    go_wp2;exact ⟨⟨k+1,by omega,by go_num,hn'⟩,by simp [intOf];omega⟩
  ·have H:Hid (inB l n=false):=by
    have:=hn.out;rw [List.take_of_length_le (by omega)] at this;show _=_;simpa [inB] using this
   go_wp2;go_ret;exact ⟨by rw [H.out];rfl,rfl⟩
theorem Ziw (h1:isV x=true) (h2:inB o (-x)=false):Y1 o x=o ++ [-x]:=by
 rw [Y1,if_pos ⟨h1,by simpa [inB] using h2⟩]
theorem Zm6 (h2:inB o (-x)=true):Y1 o x=o:=by
 rw [Y1,if_neg (by simp [inB] at h2;simp [h2])]
theorem Znu (h1:isV x=false):Y1 o x=o:=by
 rw [Y1,if_neg (by simp [h1])]
theorem Zeh (ht:Zh w ao t) (hm:t.length * 8<=140737488351232) :
  Calls prog 223 #[.slice ao t.length cap] w λ e w' => ∃ v,e=.returned v∧Row w.heap.size w' v (Zx t)∧Za w w' := by
 go_enter func223,ntmps223
 go_wp2
 go_loopw [3,4] (λ ov i wr=>∃ k:Nat,k<=t.length∧i=.int .i64 (k:Int)∧Row w.heap.size wr ov (Zx (t.take k))∧Za w wr) (λ _ i _=>t.length-(intOf i).toNat)
 case atStart=>exact ⟨0,Nat.zero_le _,rfl,World.ownsRow_nil _ _ _ _,Zc.refl _ _⟩
 case round=>
  obtain ⟨k,hk,rfl,hr,hs⟩:=hrel;obtain ⟨oo,ocap,rfl⟩:=Zf hr
  by_cases hlt:k<t.length
  ·obtain ⟨b,off,rfl,_,hc⟩:=(ht.same hs).get hlt
   have i1:(0:Int)<=(k:Int):=by omega
   have i2:(k:Int)<(t.length:Int):=by omega
   have E:Hid (Zx (t.take (k+1))=Y1 (Zx (t.take k)) t[k]):=Zua hlt;have hl:=Zf7 [] (t.take k);have hl2:(Zx (t.take k)).length<=t.length:=by simp at hl;unfold Zx;omega
   have cV:=λ w' => Zvx t[k] w';clear hl;generalize hO:Zx (t.take k)=O at *;generalize hX:t[k]=x at *;cases hv:isV x with
   | false=>
    have E1:Hid (Zx (t.take (k+1))=O):=by rw [E.out];exact Znu hv
    rw [<- E1.out] at hr;simp only [hv] at cV;have hlE:=congrArg List.length E1.out;rw [<- hlE];clear hlE
    go_wp2_with (go_at_call 232;refine (cV _).mono ?_;rintro e wr ⟨rfl,rfl⟩)
    go_roundw
    case rel=>first | exact ⟨k+1,by omega,by go_num,hr,hs⟩ | ((repeat apply Exists.intro);exact ⟨⟨k+1,by omega,by go_num,hr,hs⟩,rfl⟩)
    case measure=>simp [intOf];omega
   | true=>
    simp only [hv] at cV;have hx:=Zhc.1 hv;obtain ⟨oo', ocap', hvv,io,_,_⟩:=hr.ints;simp only [Value.slice.injEq,true_and] at hvv;obtain ⟨rfl,rfl⟩:=hvv;have cI:=Zqq (cap:=ocap) io (-x) (by unfold maxLen;omega);cases hin:inB O (-x) with
    | true=>
     have E1:Hid (Zx (t.take (k+1))=O):=by rw [E.out];exact Zm6 hin
     rw [hin] at cI
     go_wp2_with (first | (go_at_call 232;refine (cV _).mono ?_;rintro e wr ⟨rfl,rfl⟩) | (go_at_call 224;refine cI.mono ?_;rintro e wr ⟨rfl,rfl⟩))
     rw [<- E1.out] at hr;have hrE:Row w.heap.size wr (.slice oo O.length ocap) (Zx (t.take (k+1))):=by rw [E1.out] at hr ⊢;exact hr
     exact ⟨⟨k+1,by omega,by go_num,hrE,hs⟩,by simp [intOf];omega⟩
    | false=>
     have E1:Hid (Zx (t.take (k+1))=O ++ [-x]):=by rw [E.out];exact Ziw hv hin
     rw [hin] at cI;have hb8:(O.length+1) * 8<=140737488355328:=by omega
     have hss:=hs.size
     go_wp2_with (first | (go_at_call 232;refine (cV _).mono ?_;rintro e wr ⟨rfl,rfl⟩) | (go_at_call 224;refine cI.mono ?_;rintro e wr ⟨rfl,rfl⟩) | (at_builtin;refine Yz rfl _ _ 51 rfl underlying51 w.heap.size O _ rfl hr (-x) rfl hss hb8 ?_;intro g gcap w4 hr4 hk4 _;have hs4:=hs.onto hr hk4))
     rw [<- E1.out] at hr4;go_roundw
     case rel=>first | exact ⟨k+1,by omega,by go_num,hr4,hs4⟩ | ((repeat apply Exists.intro);exact ⟨⟨k+1,by omega,by go_num,hr4,hs4⟩,rfl⟩)
     case measure=>simp [intOf];omega
  ·obtain rfl:k=t.length:=by omega
   rw [List.take_length] at hr;go_wp2;go_ret;refine ⟨_,rfl,?_,hs⟩
   simpa using hr
theorem Zga:Tryz.zeroCells275=Array.replicate 100 (.bool false):=by kernel_rfl
def Zb0 (w:World) (A:Nat) (o:List Int):Prop:=∃ cs,w.heap[A]? = some (.cells cs 275 (0,0))∧cs.size=100∧∀ v:Nat,1<=v->v<=99->cs[v]? = some (.bool (inB o (v:Int)))
theorem Zzi (w:World):Zb0 (w.alloc (.cells Tryz.zeroCells275 275)) w.heap.size []:=by
 refine ⟨_,heap_alloc_new w _,by rw [Zga];simp,λ v h1 h2=>?_⟩;rw [Zga,Array.getElem?_replicate,if_pos (by omega)];simp [inB]
theorem Zb0.kept (h:Zb0 w A o) (hk:Zc S w w') (hn:¬ S A):Zb0 w' A o:=by
 obtain ⟨cs,h1,h2⟩:=h;exact ⟨cs,hk.at h1 hn,h2⟩
theorem Zb0.cell (h:Zb0 w A o) (h1:1<=v) (h2:v<=99):w.cell? ⟨A,v,none⟩=some (.bool (inB o (v:Int)))∧w.frozen? ⟨A,v,none⟩=false:=by
 obtain ⟨cs,q1,q2,q3⟩:=h;exact ⟨(Zb q1 v).trans (q3 v h1 h2),Zg q1 v⟩
theorem Zb0.set (h:Zb0 w A o) (h1:1<=v) (h2:v<=99):Zb0 (w.setCell ⟨A,v,none⟩ (.bool true)) A (o ++ [(v:Int)]):=by
 obtain ⟨cs,q1,q2,q3⟩:=h;refine ⟨_,Zt q1 v _,by simpa using q2,λ u g1 g2=>?_⟩;rw [Array.getElem?_setIfInBounds]
 by_cases e:v=u
 ·subst e;rw [if_pos rfl,if_pos (by omega)];simp [inB]
 ·rw [if_neg e,q3 u g1 g2]
  congr 2;simp [inB];omega
theorem Zjr (ht:Zh w ao t) (hm:t.length * 8<=140737488351232) :
  Calls prog 105 #[.slice ao t.length cap] w λ e w' => ∃ v,e=.returned v∧Row w.heap.size w' v (Zx t)∧Za w w' := by
 have M0:=Zzi w;have K0:Za w (w.alloc (.cells Tryz.zeroCells275 275)):=(Zc.refl _ w).alloc _
 go_enter func105,ntmps105
 go_wp2
 go_loopw [4,9] (λ ov i wr=>∃ k:Nat,k<=t.length∧i=.int .i64 (k:Int)∧Row w.heap.size wr ov (Zx (t.take k))∧Zb0 wr w.heap.size (Zx (t.take k))∧ov.ownBlock≠some w.heap.size∧Za w wr) (λ _ i _=>t.length-(intOf i).toNat)
 case atStart=>exact ⟨0,Nat.zero_le _,rfl,World.ownsRow_nil _ _ _ _,M0,by simp [Value.ownBlock],K0⟩
 case round=>
  clear M0 K0;obtain ⟨k,hk,rfl,hr,hM,hne,hs⟩:=hrel;obtain ⟨oo,ocap,rfl⟩:=Zf hr
  by_cases hlt:k<t.length
  ·obtain ⟨b,off,rfl,_,hc⟩:=(ht.same hs).get hlt
   have i1:(0:Int)<=(k:Int):=by omega
   have i2:(k:Int)<(t.length:Int):=by omega
   have E:Hid (Zx (t.take (k+1))=Y1 (Zx (t.take k)) t[k]):=Zua hlt;have hl:=Zf7 [] (t.take k);have hl2:(Zx (t.take k)).length<=t.length:=by simp at hl;unfold Zx;omega
   have cV:=λ w' => Jt t[k] w';clear hl;generalize hO:Zx (t.take k)=O at *;generalize hX:t[k]=x at *;cases hv:isV x with
   | false=>
    have E1:Hid (Zx (t.take (k+1))=O):=by rw [E.out];exact Znu hv
    simp only [hv] at cV
    go_wp2_with (go_at_call 155;refine (cV _).mono ?_;rintro e wr ⟨rfl,rfl⟩)
    have hrE:Row w.heap.size wr (.slice oo O.length ocap) (Zx (t.take (k+1))):=by rw [E1.out];exact hr
    have hME:Zb0 wr w.heap.size (Zx (t.take (k+1))):=by rw [E1.out];exact hM
    exact ⟨⟨k+1,by omega,by go_num,hrE,hME,hne,hs⟩,by simp [intOf];omega⟩
   | true=>
    simp only [hv] at cV;have hx:=Zhc.1 hv;obtain ⟨v,rfl⟩:∃ v:Nat,x = -(v:Int):=⟨(-x).toNat,by omega⟩;have hv1:1<=v:=by omega
    have hv2:v<=99:=by omega
    obtain ⟨q1,q2⟩:=hM.cell hv1 hv2;have j1:(0:Int)<=(v:Int):=by omega
    have j2:(v:Int)<100:=by omega
    cases hin:inB O (v:Int) with
    | true=>
     have E1:Hid (Zx (t.take (k+1))=O):=by rw [E.out];exact Zm6 (by simpa using hin)
     rw [hin] at q1
     go_wp2_with (go_at_call 155;refine (cV _).mono ?_;rintro e wr ⟨rfl,rfl⟩)
     have hrE:Row w.heap.size wr (.slice oo O.length ocap) (Zx (t.take (k+1))):=by rw [E1.out];exact hr
     have hME:Zb0 wr w.heap.size (Zx (t.take (k+1))):=by rw [E1.out];exact hM
     exact ⟨⟨k+1,by omega,by go_num,hrE,hME,hne,hs⟩,by simp [intOf];omega⟩
    | false=>
     have E1:Hid (Zx (t.take (k+1))=O ++ [(v:Int)]):=by show _=_;rw [E.out,Ziw hv (by simpa using hin)];simp
     rw [hin] at q1;have hb8:(O.length+1) * 8<=140737488355328:=by omega
     have hMs:=hM.set hv1 hv2;have ks:Zc (λ k=>k=w.heap.size) wr (wr.setCell ⟨w.heap.size,v,none⟩ (.bool true)):=Zc.setCell (S:=λ k=>k=w.heap.size) (p:=⟨w.heap.size,v,none⟩) (Zc.refl _ _) (λ _=>rfl) _;have hrs:Row w.heap.size (wr.setCell ⟨w.heap.size,v,none⟩ (.bool true)) (.slice oo O.length ocap) O:=ks.row hr (λ k e e' => hne (by rw [e,e']));have hss:Za w (wr.setCell ⟨w.heap.size,v,none⟩ (.bool true)):=hs.own (Nat.le_refl _) _;have hsz:=hss.size;have hAl:w.heap.size<wr.heap.size:=by obtain ⟨cs,q,_⟩:=hM;exact Zi q
     have E3:Hid ((wr.setCell ⟨w.heap.size,v,none⟩ (.bool true)).heap.size=wr.heap.size):=by show _=_;simp [World.setCell]
     clear hM hr
     go_wp2_with (first | (go_at_call 155;refine (cV _).mono ?_;rintro e wr ⟨rfl,rfl⟩) | (at_builtin;refine Yz rfl _ _ 51 rfl underlying51 w.heap.size O (.slice oo O.length ocap) rfl hrs (v:Int) (by rw [E3.out];rfl) hsz hb8 ?_;intro g gcap w4 hr4 hk4 hat4;have hs4:=hss.onto hrs hk4))
     have hM4:Zb0 w4 w.heap.size (O ++ [(v:Int)]):=hMs.kept hk4 hne
     have hne4:Value.ownBlock (.slice (some ⟨g,0,none⟩) (O.length+1) gcap)≠some w.heap.size:=by
      simp only [Value.ownBlock,ne_eq,Option.some.injEq]
      rcases hat4 with e | e
      ·intro e'; exact hne (by rw [e,e'])
      ·have e3:=E3.out
       omega
     rw [<- E1.out] at hr4 hM4;go_roundw
     case rel=>first | exact ⟨k+1,by omega,by go_num,hr4,hM4,hne4,hs4⟩ | ((repeat apply Exists.intro);exact ⟨⟨k+1,by omega,by go_num,hr4,hM4,hne4,hs4⟩,rfl⟩)
     case measure=>simp [intOf];omega
  ·obtain rfl:k=t.length:=by omega
   rw [List.take_length] at hr;go_wp2;go_ret;refine ⟨_,rfl,?_,hs⟩
   simpa using hr
def Lists (w:World) (lo:Option Addr) (ls:List (List Int)):Prop:=
 ls=[]∨∃ b off,lo=some ⟨b,off,none⟩∧b<w.heap.size∧∀ i (h:i<ls.length),∃ ao cap,w.cell? ⟨b,off+i,none⟩=some (.slice ao ls[i].length cap)∧Zh w ao ls[i]∧(ao=none->ls[i].length=0∧cap=0)
structure PlAt (s:Nat) (wr:World) (g n:Nat) (cs:List Value) (done:List (List Int)):Prop where
 row:wr.ownsRow s 74 1 (.slice (some ⟨g,0,none⟩) n n) n cs
 len:done.length<=n
 each:∀ j (h:j<done.length),∃ v,cs[j]? = some v∧Row s wr v done[j]∧v.ownBlock≠some g
 apart:∀ i j vi vj,i<done.length->j<done.length->i≠j->cs[i]? = some vi->cs[j]? = some vj->∀ k,vi.ownBlock=some k->vj.ownBlock≠some k
theorem Zuu {α:Type} {t:List α} (hk:k<t.length):t.take (k+1)=t.take k ++ [t[k]]:=by
 rw [List.take_add_one,List.getElem?_eq_getElem hk];rfl
def Over (base g n:Nat) (w wr:World):Prop:=(∃ ys,wr.ownsRow base 3 1 (.slice (some ⟨g,0,none⟩) n n) n ys)∧Zc (λ k=>k=g) w wr
theorem Y7 {o:Oper} (hgd:o.guard=none) (s x:Operand) (t:TypeId)
  (ho:o.op=.call { callee:=.builtin .append,args:=#[s,x],argTypes:=#[t,t] }) (ht:prog.underlying t=some (.slice 3))
  (base:Nat) (xs:List Int) (v:Value) (hs:a.eval s=v) (hr:Row base w0 v xs) (ys:List Int) (ad:Addr) (m c:Nat) (hx:a.eval x=.slice (some ad) m c) (hm:m=ys.length) (hy:Zh w0 (some ad) ys) (hb:base<=w0.heap.size) (hsz:(xs.length+ys.length) * 8<=140737488355328)
  (h:∀ v' w', Row base w' v' (xs++ys)->Zc (λ k=>v.ownBlock=some k) w0 w' -> wpList prog ops Q rest (a.put o.dst v') w') :
  wpList prog ops Q (o :: rest) a w0:=by
 subst hm;obtain ⟨i,hi,hz0,hz1,hz2⟩:=info_parts V7;refine wpList_append_own _ hgd s x t ho base 3 i (.int .i64 0) 1 8 ht hi hz0 hz1 hz2 rfl (by decide) v xs.length (iv xs) hs hr ad ys.length c (iv ys) hx (by rw [Ye];omega) (λ j u hj=>?_) (Zan ys) (by unfold maxLen;omega) hsz hb ?_
 ·obtain ⟨ad', e,hc⟩:=hy.src (by have:=(List.getElem?_eq_some_iff.1 hj).1;omega)
  cases e
  exact hc j u hj
 ·intro v' w' hown hgrow _
  refine h v' w' ?_ (Zc.grown (Zc.refl _ w0) hgrow (λ _ e _=>e));unfold Row;rw [Xz,List.length_append];exact hown
theorem Zbw (w:World) (base:Nat) (hb:base<=w.heap.size) {o:Obj} (ho:o=.cells #[] 3 (0,0)):Row base (w.alloc o) (.slice (some ⟨w.heap.size,0,none⟩) 0 0) []:=by
 subst ho;exact ⟨rfl,.inr ⟨w.heap.size,0, #[],rfl,hb,heap_alloc_new w _,Nat.le_refl _,by unfold maxLen;omega,rfl,rfl⟩⟩
theorem Zwg {rv:Value} (h:Rl n w rv L) {uo:Option Addr} {ucap:Nat} (ht:Zh w ao t) (hm:t.length<=2000) (hcap:t.length<=cap) (hT:IsT L t) (p:Nat) (hp:p<t.length) (hu:Zh w uo u) (hum:u.length<=2000) (hun:0<u.length) :
  Calls prog 143 #[rv,.slice ao t.length cap,.int .i64 (p:Int),.slice uo u.length ucap] w λ e w' => ∃ v,e=.returned v∧Row w.heap.size w' v (Kx L t p u)∧Za w w' := by
 have c2:∀ w1,Za w w1->Calls prog 195 #[rv,.slice ao t.length cap,.int .i64 (p:Int)] w1 λ e w' => e=.returned (.int .i64 (Zj L t p:Int))∧w' = w1:=λ w1 hk=>Zhk (cap:=cap) (h.same hk) (ht.same hk) hm p (by omega)
 obtain ⟨ro,rcap,rfl⟩:=Zf h.1;obtain ⟨hl1,hl2⟩:=Xs hT hp;obtain ⟨tb,off,rfl,htb,hc⟩:=ht.get hp;obtain ⟨ub,uoff,rfl,_,_⟩:=hu.get (i:=0) hun;have i0:¬ (p:Int)<0:=by omega
 have i1:(0:Int)<=(p:Int):=by omega
 have i3:(Zj L t p:Int)<=(t.length:Int):=by omega
 have i4:(0:Int)<=(Zj L t p:Int):=by omega
 have i5:(p:Int)<(t.length:Int):=by omega
 have i6:(p:Int)<=(cap:Int):=by omega
 have k0:Za w (w.alloc (.cells #[] 3)):=(Zc.refl _ w).alloc _;have r0:Row w.heap.size (w.alloc (.cells #[] 3)) (.slice (some ⟨w.heap.size,0,none⟩) 0 0) []:=Zbw w _ (Nat.le_refl _) rfl;have cI:Zh (w.alloc (.cells #[] 3)) (some ⟨tb,off,none⟩) (t.take p):=by simpa using (ht.same k0).cut 0 p
 have tail:∀ w1 (a2:Option Addr),Za w w1->(a2=some ⟨tb,off+Zj L t p,none⟩∨cap=Zj L t p)->Zh w1 a2 (t.drop (Zj L t p)):=λ w1 a2 hk e=>by
  rcases e with rfl | e
  ·simpa using (ht.same hk).cut (Zj L t p) t.length
  ·rw [List.drop_eq_nil_of_le (by omega)];exact Zh.nil _ _
 have z0:=k0.size;have l1:(t.take p).length=p:=by simp;omega
 have H:Hid (Kx L t p u=(t.take p++u)++t.drop (Zj L t p)):=rfl;have l2:(t.drop (Zj L t p)).length=t.length-Zj L t p:=by simp
 have HT:Hid (∀ w1 (a2:Option Addr),Za w w1->(a2=some ⟨tb,off+Zj L t p,none⟩∨cap=Zj L t p)->Zh w1 a2 (t.drop (Zj L t p))):=tail;have HC:Hid (∀ w1,Za w w1->Calls prog 195 #[.slice ro L.length rcap,.slice (some ⟨tb,off,none⟩) t.length cap,.int .i64 (p:Int)] w1 λ e w' => e=.returned (.int .i64 (Zj L t p:Int))∧w' = w1):=c2;clear tail c2
 go_enter func143,ntmps143
 go_upto_region 4 with (first
   | (at_builtin;refine Y7 rfl (.tmp 18) (.tmp 21) 74 rfl underlying74 w.heap.size [] _ rfl r0 (t.take p) _ _ _ rfl (by omega) cI z0 (by simp;omega) ?_;intro v1 w1 hr1 hk1))
 rw [List.nil_append] at hr1;have s1:=k0.onto r0 hk1;have u1:=hu.same s1;have z1:=s1.size;clear r0 cI hk1 k0 z0
 go_upto_region 5 with (first
   | (at_builtin;refine Y7 rfl (.tmp 23) (.tmp 24) 74 rfl underlying74 w.heap.size (t.take p) v1 rfl hr1 u _ _ _ rfl rfl u1 z1 (by omega) ?_;intro v2 w2 hr2 hk2))
 have s2:=s1.onto hr1 hk2;have z2:=s2.size;have c3:=HC.out _ s2;have B3:Hid (((t.take p++u).length+(t.drop (Zj L t p)).length) * 8<=140737488355328):=by show _<=_;rw [List.length_append,l1,l2];omega
 have B4:Hid (t.length-Zj L t p=(t.drop (Zj L t p)).length):=l2.symm;clear l1 l2;clear hr1 hk2 u1 z1 HC
 by_cases hcb:cap=Zj L t p
 ·have t2:=HT.out _ (some ⟨tb,off,none⟩) s2 (.inr hcb)
  have B5:Hid (0=(t.drop (Zj L t p)).length):=by have:=B4.out;show _=_;omega
  clear HT;subst hcb
  go_wp2_with (first
   | (go_at_call 195;refine c3.mono ?_;rintro e w' ⟨rfl,rfl⟩)
   | (at_builtin;refine Y7 rfl (.tmp 26) (.tmp 32) 74 rfl underlying74 w.heap.size (t.take p++u) v2 rfl hr2 (t.drop (Zj L t p)) _ _ _ rfl (by first | exact B4.out | exact B5.out) t2 z2 B3.out ?_;intro v3 w3 hr3 hk3))
  go_ret;exact ⟨_,rfl,by rw [H.out];exact hr3,s2.onto hr2 hk3⟩
 ·have t2:=HT.out _ (some ⟨tb,off+Zj L t p,none⟩) s2 (.inl rfl)
  clear HT
  go_wp2_with (first
   | (go_at_call 195;refine c3.mono ?_;rintro e w' ⟨rfl,rfl⟩)
   | (at_builtin;refine Y7 rfl (.tmp 26) (.tmp 32) 74 rfl underlying74 w.heap.size (t.take p++u) v2 rfl hr2 (t.drop (Zj L t p)) _ _ _ rfl (by first | exact B4.out | exact B5.out) t2 z2 B3.out ?_;intro v3 w3 hr3 hk3))
  go_ret;exact ⟨_,rfl,by rw [H.out];exact hr3,s2.onto hr2 hk3⟩
def Zf5 (N:Nat) (w:World) (cs:Array Value) (σ:Tb):Prop:=cs.size=100∧∀ v,v<100->∃ ao cap,cs[v]? = some (.slice ao (σ v).length cap)∧Zh w ao (σ v)∧(σ v).length<=cap∧(σ v=[]->ao=none∧cap=0)∧∀ a,ao=some a->a.block<N
def Ky (N:Nat) (w:World) (A:Nat) (σ:Tb):Prop:=∃ cs,w.heap[A]? = some (.cells cs 279 (0,0))∧Zf5 N w cs σ
theorem Zf5.kept {σ:Tb} (h:Zf5 N w cs σ) (hk:Zc S w w') (hs:∀ k,k<N->¬ S k):Zf5 N w' cs σ:=
 ⟨h.1,λ v hv=>by obtain ⟨ao,cap,h1,h2,h3,h4,h5⟩:=h.2 v hv;exact ⟨ao,cap,h1,h2.kept hk (λ a e=>hs _ (h5 a e)),h3,h4,h5⟩⟩
theorem Zf5.same {σ:Tb} (h:Zf5 N w cs σ) (hk:Za w w'):Zf5 N w' cs σ:=h.kept hk (λ _ _ f=>f)
theorem Ky.kept {σ:Tb} (h:Ky N w A σ) (hk:Zc S w w') (hs:∀ k,k<N->¬ S k) (hA:¬ S A):Ky N w' A σ:=by
 obtain ⟨cs,h1,h2⟩:=h;exact ⟨cs,hk.at h1 hA,h2.kept hk hs⟩
theorem Ky.same {σ:Tb} (h:Ky N w A σ) (hk:Za w w'):Ky N w' A σ:=h.kept hk (λ _ _ f=>f) (λ f=>f)
theorem Ky.cell {σ:Tb} (h:Ky N w A σ) (hv:v<100):∃ ao cap,w.cell? ⟨A,v,none⟩=some (.slice ao (σ v).length cap)∧w.frozen? ⟨A,v,none⟩=false∧Zh w ao (σ v)∧(σ v).length<=cap∧(σ v=[]->ao=none∧cap=0):=by
 obtain ⟨cs,h1,h2,h3⟩:=h;obtain ⟨ao,cap,g1,g2,g3,g4,_⟩:=h3 v hv;exact ⟨ao,cap,(Zb h1 v).trans g1,Zg h1 v,g2,g3,g4⟩
theorem Ky.put {σ:Tb} (h:Ky N w A σ) (hA:N<=A) (hv:v<100) {a:Addr} (hu:Zh w (some a) u) (hc:u.length<=cap) (hn:u≠[]) (ha:a.block<N) :
  Ky N (w.setCell ⟨A,v,none⟩ (.slice (some a) u.length cap)) A (Zjt σ v u):=by
 obtain ⟨cs,h1,h2,h3⟩:=h;have k:Zc (λ i=>i=A) w (w.setCell ⟨A,v,none⟩ (.slice (some a) u.length cap)):=Zc.setCell (p:=⟨A,v,none⟩) (Zc.refl (λ i=>i=A) w) (λ _=>rfl) _;have hne:∀ k,k<N->¬ k=A:=λ k hk e=>by omega
 refine ⟨_,Zt h1 v _,by simpa using h2,λ x hx=>?_⟩;rw [Array.getElem?_setIfInBounds]
 by_cases e:v=x
 ·subst e
  rw [if_pos rfl,if_pos (by omega),Zhi];exact ⟨some a,cap,rfl,hu.kept k (λ b e=>by cases e;exact hne _ ha),hc,λ e=>absurd e hn,λ b e=>by cases e;exact ha⟩
 ·rw [if_neg e,Zc9 (λ h=>e h.symm)]
  obtain ⟨ao,c,g1,g2,g3,g4,g5⟩:=h3 x hx;exact ⟨ao,c,g1,g2.kept k (λ b e=>hne _ (g5 b e)),g3,g4,g5⟩
theorem Kh:Tryz.zeroCells279=Array.replicate 100 (.slice none 0 0):=by kernel_rfl
theorem Zbx (N:Nat) (w:World):Zf5 N w (Array.replicate 100 (.slice none 0 0)) noT:=
 ⟨by simp,λ v hv=>⟨none,0,by rw [Array.getElem?_replicate,if_pos hv];rfl,.inl rfl,Nat.le_refl _,λ _=>⟨rfl,rfl⟩,λ a e=>by cases e⟩⟩
theorem Zy1 (w:World) (a:Option Addr) (n c n' c' : Nat):(binOp .eql 74 (.slice a n c) (.slice none n' c')).run prog w=.ok (.bool a.isNone) w:=Lib.run_eql_slice_nil w _ _ a n c n' c' underlying74
theorem Zrg (w:World) (a:Option Addr) (n c n' c' : Nat):(binOp .neq 74 (.slice a n c) (.slice none n' c')).run prog w=.ok (.bool (!a.isNone)) w:=run_neq_slice_nil_any w _ _ a n c n' c' underlying74
theorem Zkd {bo:Option Addr} {acap bcap:Nat} {ys:List Int} (hx:Zh w ao xs) (hy:Zh w bo ys) (hm:xs.length<=maxLen) :
  Calls prog 204 #[.slice ao xs.length acap,.slice bo ys.length bcap] w λ e w' => e=.returned (.bool (Zb5 xs ys))∧Za w w' := by
 unfold maxLen at hm
 by_cases hl:xs.length=ys.length
 ·have hl' : (xs.length:Int)=(ys.length:Int):=by omega
  go_enter func204,ntmps204
  go_wp2
  go_loopw [13] (λ i wr=>∃ k:Nat,k<=xs.length∧i=.int .i64 (k:Int)∧Hid (xs.take k=ys.take k)∧Za w wr) (λ i _=>xs.length-(intOf i).toNat)
  case atStart=>exact ⟨0,Nat.zero_le _,rfl,by simp [Hid],Zc.refl _ _⟩
  case round=>
   obtain ⟨k,hk,rfl,ht,hs⟩:=hrel
   by_cases hlt:k<xs.length
   ·have hlt' : k<ys.length:=by omega
    obtain ⟨ab,ao', rfl,hab,hac⟩:=(hx.same hs).get hlt;obtain ⟨bb,bo', rfl,hbb,hbc⟩:=(hy.same hs).get hlt';have i1:(0:Int)<=(k:Int):=by omega
    have i2:(k:Int)<(xs.length:Int):=by omega
    have i3:(k:Int)<(ys.length:Int):=by omega
    have d1:wr.drew.cell? ⟨ab,ao' + k,none⟩=some (.int .i64 xs[k]):=hac;have d2:wr.drew.cell? ⟨bb,bo' + k,none⟩=some (.int .i64 ys[k]):=hbc
    by_cases he:xs[k]=ys[k]
    ·have hn:Hid (xs.take (k+1)=ys.take (k+1)):=Zii ht.out hlt hlt' he
     have he' : (xs[k] == ys[k])=true:=by simpa using he
     go_wp2;go_quiet (fail);go_wp2;refine ⟨⟨k+1,by omega,by go_num,hn,hs.drewN _⟩,by simp [intOf];omega⟩
    ·have H:Hid (Zb5 xs ys=false):=by
      show _=_;simp only [Zb5,decide_eq_false_iff_not];intro e;subst e;exact he rfl
     have he' : (xs[k] == ys[k])=false:=by simpa using he
     go_wp2;go_quiet (fail);go_wp2;go_ret;exact ⟨by rw [H.out];rfl,hs.drewN _⟩
   ·have H:Hid (Zb5 xs ys=true):=by
     have:=ht.out;rw [List.take_of_length_le (by omega),List.take_of_length_le (by omega)] at this;show _=_
     simpa [Zb5] using this
    go_wp2;go_ret;exact ⟨by rw [H.out];rfl,hs⟩
 ·have hl' : ¬ (xs.length:Int)=(ys.length:Int):=by omega
  have H:Hid (Zb5 xs ys=false):=Zwh hl
  go_enter func204,ntmps204
  go_wp2;go_ret;exact ⟨by rw [H.out];rfl,Zc.refl _ _⟩
def Vt (σ:Tb) (n:Int):List Int:=if 0<=n then [] else σ (-n).toNat
theorem Zng {σ:Tb} (h:Ky N w A σ) (n:Int) (hn : -99<=n) :
  Calls prog 161 #[.pointer (some ⟨A,0,none⟩),.int .i64 n] w λ e w' => ∃ ao cap,e=.returned (.slice ao (Vt σ n).length cap)∧Zh w ao (Vt σ n)∧(Vt σ n).length<=cap∧(Vt σ n=[]->ao=none∧cap=0)∧w' = w:=by
 by_cases h0:0<=n
 ·have H:Hid (Vt σ n=[]):=by show _=_;rw [Vt,if_pos h0]
  go_enter func161,ntmps161
  go_wp2;go_ret;refine ⟨none,0,?_,?_,?_,?_,rfl⟩
  all_goals rw [H.out]
  ·rfl
  ·exact .inl rfl
  ·exact Nat.le_refl _
  ·exact λ _=>⟨rfl,rfl⟩
 ·obtain ⟨v,hv⟩:∃ v:Nat,v=(-n).toNat:=⟨_,rfl⟩
  have H:Hid (Vt σ n=σ v):=by show _=_;rw [Vt,if_neg h0,hv]
  obtain ⟨ao,cap,g1,g2,g3,g4,g5⟩:=h.cell (v:=v) (by omega);obtain rfl:n = -(v:Int):=by omega
  have i1:(0:Int)<=(v:Int):=by omega
  have i2:(v:Int)<100:=by omega
  have i3 : - -(v:Int)=(v:Int):=by omega
  have i4:¬ (0:Int) <= -(v:Int):=by omega
  clear hv h0 h
  go_enter func161,ntmps161
  go_wp2;go_ret;refine ⟨ao,cap,?_,?_,?_,?_,rfl⟩
  all_goals rw [H.out]
  ·rfl
  ·exact g3
  ·exact g4
  ·exact g5
def Bnd (σ:Tb):Prop:=∀ v,(σ v).length<=2000
theorem Zg2 {σ:Tb} (hb:Bnd σ) (n:Int):(Vt σ n).length<=2000:=by
 unfold Vt;split
 ·simp
 ·exact hb _
theorem Zje (σ:Tb) (n:Int):(Zuf σ n).length=max 1 (Vt σ n).length:=by
 rw [Zwc,Vt];split <;> simp
theorem Zht {σ:Tb} (h:k<t.length):Vo σ (t.take (k+1))=Vo σ (t.take k)++Zuf σ t[k]:=by
 rw [Zuu h,Zf9,Znw,Zzh,List.append_nil]
theorem app_le {σ:Tb} (hb:Bnd σ) (t:List Int):(Vo σ t).length<=2000 * t.length:=by
 induction t with
 | nil=>simp [Vo]
 | cons n t ih=>
  rw [Znw,List.length_append,Zje];have:=Zg2 hb n;simp only [List.length_cons];omega
theorem Zuy {σ:Tb} (h:Ky N w A σ) (hb:Bnd σ) (ht:Zh w ao t) (hm:t.length<=2000) (hv:∀ x∈t, -99<=x) :
  Calls prog 160 #[.pointer (some ⟨A,0,none⟩),.slice ao t.length cap] w λ e w' => e=.returned (.int .i64 ((Vo σ t).length:Int))∧w' = w:=by
 go_enter func160,ntmps160
 go_wp2
 go_loop [5,10] (λ s i=>∃ k:Nat,k<=t.length∧i=.int .i64 (k:Int)∧s=.int .i64 ((Vo σ (t.take k)).length:Int)) (λ _ i=>t.length-(intOf i).toNat)
 case atStart=>exact ⟨0,Nat.zero_le _,rfl,by simp [Vo]⟩
 case round=>
  obtain ⟨k,hk,rfl,rfl⟩:=hrel
  by_cases hlt:k<t.length
  ·obtain ⟨tb,off,rfl,htb,hc⟩:=ht.get hlt
   have i1:(0:Int)<=(k:Int):=by omega
   have i2:(k:Int)<(t.length:Int):=by omega
   have c:=Zng h t[k] (hv _ (List.getElem_mem hlt))
   have e1:((Vo σ (t.take (k+1))).length:Int)=((Vo σ (t.take k)).length:Int)+max 1 ((Vt σ t[k]).length:Int):=by
    rw [Zht hlt,List.length_append,Zje];omega
   have E1:Hid (((Vo σ (t.take (k+1))).length:Int)=((Vo σ (t.take k)).length:Int)+max 1 ((Vt σ t[k]).length:Int)):=e1;have b1:=app_le hb (t.take k);have b2:(t.take k).length<=2000:=by rw [List.length_take];omega
   have b3:=Zg2 hb t[k];have b4:(Vo σ (t.take k)).length<=4000000:=by omega
   clear e1 b1 b2;generalize (Vo σ (t.take k)).length=M at *
   go_wp2_with (go_at_call 161;refine c.mono ?_;rintro e w' ⟨po,pc,rfl,q1,q2,q3,rfl⟩)
   all_goals
    refine ⟨⟨k+1,by omega,by go_num,?_⟩,by simp [intOf];omega⟩;rw [E1.out]
    first | rfl | (congr 1;omega) | trace_state
  ·obtain rfl:k=t.length:=by omega
   have e1:t.take t.length=t:=List.take_length;rw [e1];clear e1;go_wp2;go_ret;exact ⟨rfl,rfl⟩
theorem Zfs (h:Sg n w b L) (ht:Zh w ao t) (hm:t.length<=2000) {p:Nat} (hp:p<=t.length) (hs:Xv L 1 (t.drop p)=some m) :
  Calls prog 203 #[.pointer (some ⟨b,0,none⟩),.slice ao t.length cap,.int .i64 (p:Int)] w λ e w' => e=.returned (.int .i64 ((p+m:Nat):Int))∧Za w w' := by
 have ha:=h.2
 go_enter func203,ntmps203
 go_wp2
 go_loopw [2,7] (λ at' la wr=>∃ q k:Nat,p<=q∧q<=t.length∧at' = .int .i64 (q:Int)∧la=.int .i64 (k:Int)∧k<=6 * (q-p)+1∧Hid ((Xv L k (t.drop q)).map (q + ·)=some (p+m))∧Za w wr) (λ at' _ _=>t.length+1-(intOf at').toNat)
 case atStart=>exact ⟨p,1,Nat.le_refl _,hp,rfl,rfl,by omega,by show _=_;rw [hs];rfl,Zc.refl _ _⟩
 case round=>
  obtain ⟨q,k,h1,h2,rfl,rfl,h3,h4,hk⟩:=hrel;cases k with
  | zero=>
   have H:Hid (q=p+m):=by
    have:=h4.out;rw [Xa] at this
    simpa [Hid] using this
   go_wp2;go_ret;exact ⟨Z3 (by rw [H.out]),hk⟩
  | succ k=>
   by_cases hlt:q<t.length
   ·obtain ⟨tb,off,rfl,htb,hc⟩:=(ht.same hk).get hlt
    obtain ⟨⟨sv,mr,g1,_⟩,_⟩:=h.same hk
    have H5:Hid ((Xv L (k+arN L t[q]) (t.drop (q+1))).map (q+1 + ·)=some (p+m)):=by
     have:=h4.out;rw [List.drop_eq_getElem_cons hlt,Xv,Option.map_map] at this;show _=_;rw [<- this];congr 1
     funext x
     simp;omega
    have hle:=Vm ha t[q];have i1:(0:Int)<=(q:Int):=by omega
    have i2:(q:Int)<(t.length:Int):=by omega
    clear h4
    by_cases hx:t[q]<0∨(L.length:Int)<=t[q]
    ·have e1:=Zwk (L:=L) hx
     rw [e1] at H5;have c:=Zu3 g1 t[q] hx;clear hle e1
     go_wp2_with (go_at_call 128;refine c.mono ?_;rintro e w' ⟨rfl,hk1⟩)
     exact ⟨⟨q+1,k,by omega,by omega,by go_num,by go_num,by omega,H5,(hk.trans' hk1).alloc _⟩,by simp [intOf];omega⟩
    ·obtain ⟨i,hi'⟩:∃ i:Nat,t[q]=(i:Int):=⟨t[q].toNat,by omega⟩
     have hi:i<L.length:=by omega
     have e1:=Zrs ha hi;rw [hi'] at H5 hle hc;generalize arN L (i:Int)=a at *;have c:=Zn4 g1 i hi;have e2:Hid (L[i].ar=(a:Int)):=e1.symm;have E2:=e2.out;rw [E2] at c;clear e1 E2 hx hi' e2
     go_wp2_with (go_at_call 128;refine c.mono ?_;rintro e w' ⟨rfl,hk1⟩)
     exact ⟨⟨q+1,k+a,by omega,by omega,by go_num,by congr 1;omega,by omega,H5,(hk.trans' hk1).alloc _⟩,by simp [intOf];omega⟩
   ·exfalso
    have:=h4.out;rw [List.drop_eq_nil_of_le (by omega)] at this;simp [Xv] at this
theorem Zfu (hx:Zh w ao xs) (hn:0<xs.length) (hsz:xs.length<=2000) :
  Calls prog 123 #[.slice ao xs.length cap] w λ e w' => ∃ v,e=.returned v∧Row w.heap.size w' v xs∧Za w w' := by
 obtain ⟨xb,off,rfl,hxb,hc⟩:=hx.get hn;have k0:Za w (w.alloc (.cells #[] 3)):=(Zc.refl _ w).alloc _;have r0:Row w.heap.size (w.alloc (.cells #[] 3)) (.slice (some ⟨w.heap.size,0,none⟩) 0 0) []:=Zbw w _ (Nat.le_refl _) rfl;have cI:=hx.same k0;have z0:=k0.size;have hnil:=Zy1
 go_enter func123,ntmps123
 go_wp2_with (at_builtin;refine Y7 rfl _ _ 74 rfl underlying74 w.heap.size [] _ rfl r0 xs _ _ _ rfl rfl cI z0 (by simp;omega) ?_;intro v' w4 hr4 hk4)
 go_ret;exact ⟨_,rfl,by simpa using hr4,k0.onto r0 hk4⟩
structure Y9 (N:Nat) (w:World) (aB tB sB A b:Nat) (L:List Sym) (ao:Option Addr) (cap:Nat) (u:List Int) (k:Nat) (σ:Tb):Prop where
 a0:w.heap[aB]? = some (.cells #[.int .i64 (k:Int)] 3 (0,0))
 t0:w.heap[tB]? = some (.cells #[.slice ao u.length cap] 74 (0,0))
 s0:w.heap[sB]? = some (.cells #[.pointer (some ⟨b,0,none⟩)] 41 (0,0))
 tab:Ky N w A σ
 ints:Zh w ao u
 ub:∀ a,ao=some a->a.block<N
 uc:u.length<=cap
 um:u.length<=2000
 sg:Sg N w b L
 ne:N<=aB∧N<=tB∧N<=sB∧N<=A∧aB≠tB∧aB≠sB∧aB≠A∧tB≠A∧sB≠A
theorem Y9.same {σ:Tb} (h:Y9 N w aB tB sB A b L ao cap u k σ) (hk:Za w w'):Y9 N w' aB tB sB A b L ao cap u k σ:=
 ⟨hk.at0 h.a0,hk.at0 h.t0,hk.at0 h.s0,h.tab.same hk,h.ints.same hk,h.ub,h.uc,h.um,h.sg.same hk,h.ne⟩
theorem Y9.cells {σ:Tb} (h:Y9 N w aB tB sB A b L ao cap u k σ) :
  w.cell? ⟨aB,0,none⟩=some (.int .i64 (k:Int))∧w.frozen? ⟨aB,0,none⟩=false∧w.cell? ⟨tB,0,none⟩=some (.slice ao u.length cap)∧w.cell? ⟨sB,0,none⟩=some (.pointer (some ⟨b,0,none⟩)):=
 ⟨Zb h.a0 0,Zg h.a0 0,Zb h.t0 0,Zb h.s0 0⟩
theorem Y9.go {σ:Tb} (h:Y9 N w aB tB sB A b L ao cap u k σ) (k' : Nat):Y9 N (w.setCell ⟨aB,0,none⟩ (.int .i64 (k' : Int))) aB tB sB A b L ao cap u k' σ:=by
 have hk:Zc (λ i=>i=aB) w (w.setCell ⟨aB,0,none⟩ (.int .i64 (k' : Int))):=Zc.setCell (p:=⟨aB,0,none⟩) (Zc.refl (λ i=>i=aB) w) (λ _=>rfl) _;obtain ⟨n1,n2,n3,n4,n5,n6,n7,n8,n9⟩:=h.ne;have hlo:∀ i,i<N->¬ i=aB:=λ i hi e=>by omega
 exact ⟨by rw [Zt h.a0];rfl,hk.at h.t0 (λ e=>n5 e.symm),hk.at h.s0 (λ e=>n6 e.symm),h.tab.kept hk hlo (λ e=>n7 e.symm),h.ints.kept hk (λ a e=>hlo _ (h.ub a e)),h.ub,h.uc,h.um,h.sg.kept hk hlo,h.ne⟩
theorem Y9.put {σ:Tb} (h:Y9 N w aB tB sB A b L ao cap u k σ) (hv:v<100) {x:List Int} {a:Addr} {c:Nat} (hu:Zh w (some a) x) (hc:x.length<=c) (hn:x≠[]) (ha:a.block<N) :
  Y9 N (w.setCell ⟨A,v,none⟩ (.slice (some a) x.length c)) aB tB sB A b L ao cap u k (Zjt σ v x):=by
 have hk:Zc (λ i=>i=A) w (w.setCell ⟨A,v,none⟩ (.slice (some a) x.length c)):=Zc.setCell (p:=⟨A,v,none⟩) (Zc.refl (λ i=>i=A) w) (λ _=>rfl) _;obtain ⟨n1,n2,n3,n4,n5,n6,n7,n8,n9⟩:=h.ne;have hlo:∀ i,i<N->¬ i=A:=λ i hi e=>by omega
 exact ⟨hk.at h.a0 n7,hk.at h.t0 n8,hk.at h.s0 n9,h.tab.put n4 hv hu hc hn ha,h.ints.kept hk (λ a e=>hlo _ (h.ub a e)),h.ub,h.uc,h.um,h.sg.kept hk hlo,h.ne⟩
theorem Zc.two {a:Nat} (h:Zc (λ i=>i=a) w w1):Zc (λ i=>i=a∨i=A) w w1:=h.mono (λ _ _ e=>.inl e)
theorem Zvh {σ:Tb} (h:Y9 N w aB tB sB A b L ao cap u k σ) (n:Int) (hn:0<=n) (hk:k<u.length) :
  Calls prog 202 #[.int .i64 n,.pointer (some ⟨aB,0,none⟩),.pointer (some ⟨tB,0,none⟩),.pointer (some ⟨sB,0,none⟩),.pointer (some ⟨A,0,none⟩)] w λ e w' => e=.returned (.bool (decide (u[k]=n)))∧Y9 N w' aB tB sB A b L ao cap u (k+1) σ∧Zc (λ i=>i=aB∨i=A) w w' := by
 obtain ⟨c1,c2,c3,c4⟩:=h.cells;have h1:=h.go (k+1);obtain ⟨d1,d2,d3,d4⟩:=h1.cells;obtain ⟨tb,off,rfl,htb,hc⟩:=h1.ints.get hk;have hm:=h.um;have i1:(0:Int)<=(k:Int):=by omega
 have i2:(k:Int)<(u.length:Int):=by omega
 have e1:((k+1:Nat):Int)=(k:Int)+1:=by omega
 rw [e1] at d1 d2 d3 d4 hc;have hk1:Hid (Zc (λ i=>i=aB∨i=A) w (w.setCell ⟨aB,0,none⟩ (.int .i64 ((k:Int)+1)))):=(Zc.setCell (p:=⟨aB,0,none⟩) (Zc.refl (λ i=>i=aB) w) (λ _=>rfl) _).two;have H1:Hid (Y9 N (w.setCell ⟨aB,0,none⟩ (.int .i64 ((k:Int)+1))) aB tB sB A b L (some ⟨tb,off,none⟩) cap u (k+1) σ):=by rw [e1] at h1;exact h1
 clear h h1 e1
 go_enter func202,ntmps202
 go_wp2;go_ret;exact ⟨by congr 1,H1.out,hk1.out⟩
theorem Zn8 (h:Xv L 1 (u.drop k)=some m) (hk:k<=u.length):0<m∧k+m<=u.length∧Jc L (u.drop k)=(u.take (k+m)).drop k∧((u.take (k+m)).drop k).length=m:=by
 have h1:=Zbg (k:=0) h;have h2:=(Vn h).1;rw [List.length_drop] at h2;refine ⟨h1,by omega,?_,by rw [List.length_drop,List.length_take];omega⟩;rw [Jc,h,List.drop_take,Option.getD_some,show k+m-k=m by omega]
theorem Zuv {σ:Tb} (h:Y9 N w aB tB sB A b L ao cap u k σ) (h1v:1<=v) (hv:v<=99) (hk:k<=u.length) (hs:Xv L 1 (u.drop k)=some m) (hσ:σ v=[]) :
  Calls prog 202 #[.int .i64 (-(v:Int)),.pointer (some ⟨aB,0,none⟩),.pointer (some ⟨tB,0,none⟩),.pointer (some ⟨sB,0,none⟩),.pointer (some ⟨A,0,none⟩)] w λ e w' => e=.returned (.bool true)∧Y9 N w' aB tB sB A b L ao cap u (k+m) (Zjt σ v (Jc L (u.drop k)))∧Zc (λ i=>i=aB∨i=A) w w' := by
 obtain ⟨c1,c2,c3,c4⟩:=h.cells;obtain ⟨m1,m2,m3,m4⟩:=Zn8 hs hk;have cb:=Zfs (cap:=cap) h.sg h.ints h.um hk hs;obtain ⟨E,hE⟩:∃ E,E=k+m:=⟨_,rfl⟩;rw [<- hE] at cb m2 m3 m4 ⊢;obtain ⟨tb,off,rfl,htb,hc⟩:=h.ints.get (i:=k) (by omega);have hub:=h.ub _ rfl;have hcap:=h.uc;have hum:=h.um;have hne:=h.ne;have hx:((u.take E).drop k)≠[]:=by intro e;rw [e] at m4;simp at m4;omega
 have hlen:((u.take E).drop k).length=E-k:=by omega
 have W1:Hid (∀ w1,Za w w1->Y9 N (w1.setCell ⟨aB,0,none⟩ (.int .i64 (E:Int))) aB tB sB A b L (some ⟨tb,off,none⟩) cap u E σ):=λ w1 hk1=>(h.same hk1).go E
 have W2:Hid (∀ w1,Za w w1->Y9 N ((w1.setCell ⟨aB,0,none⟩ (.int .i64 (E:Int))).setCell ⟨A,v,none⟩ (.slice (some ⟨tb,off+k,none⟩) (E-k) (cap-k))) aB tB sB A b L (some ⟨tb,off,none⟩) cap u E (Zjt σ v ((u.take E).drop k))):=λ w1 hk1=>by
  have q:=(h.same hk1).go E;have:=q.put (v:=v) (by omega) (q.ints.cut k E) (c:=cap-k) (by omega) hx hub
  rwa [hlen] at this
 have WK:Hid (∀ w1,Za w w1->Zc (λ i=>i=aB∨i=A) w ((w1.setCell ⟨aB,0,none⟩ (.int .i64 (E:Int))).setCell ⟨A,v,none⟩ (.slice (some ⟨tb,off+k,none⟩) (E-k) (cap-k)))):=λ w1 hk1=>
  ((hk1.mono (S' := λ i=>i=aB∨i=A) (λ _ _ f=>f.elim)).setCell (p:=⟨aB,0,none⟩) (λ _=>.inl rfl) _).setCell (p:=⟨A,v,none⟩) (λ _=>.inr rfl) _
 have WW:Hid (∀ w1,Za w w1->(w1.setCell ⟨aB,0,none⟩ (.int .i64 (E:Int))).cell? ⟨aB,0,none⟩=some (.int .i64 (E:Int))∧w1.cell? ⟨aB,0,none⟩=some (.int .i64 (k:Int))∧w1.frozen? ⟨aB,0,none⟩=false∧(w1.setCell ⟨aB,0,none⟩ (.int .i64 (E:Int))).cell? ⟨tB,0,none⟩=some (.slice (some ⟨tb,off,none⟩) u.length cap)∧(w1.setCell ⟨aB,0,none⟩ (.int .i64 (E:Int))).cell? ⟨A,v,none⟩=some (.slice none 0 0)∧(w1.setCell ⟨aB,0,none⟩ (.int .i64 (E:Int))).frozen? ⟨A,v,none⟩=false ∧
   ((w1.setCell ⟨aB,0,none⟩ (.int .i64 (E:Int))).setCell ⟨A,v,none⟩ (.slice (some ⟨tb,off+k,none⟩) (E-k) (cap-k))).cell? ⟨A,v,none⟩=some (.slice (some ⟨tb,off+k,none⟩) (E-k) (cap-k)) ∧
   Calls prog 204 #[.slice (some ⟨tb,off+k,none⟩) (E-k) (cap-k),.slice (some ⟨tb,off+k,none⟩) (E-k) (cap-k)] ((w1.setCell ⟨aB,0,none⟩ (.int .i64 (E:Int))).setCell ⟨A,v,none⟩ (.slice (some ⟨tb,off+k,none⟩) (E-k) (cap-k))) λ e w' => e=.returned (.bool true)∧Za ((w1.setCell ⟨aB,0,none⟩ (.int .i64 (E:Int))).setCell ⟨A,v,none⟩ (.slice (some ⟨tb,off+k,none⟩) (E-k) (cap-k))) w'):=λ w1 hk1=>by
  have p0:=(h.same hk1).cells;have p1:=W1.out w1 hk1;have p2:=W2.out w1 hk1;obtain ⟨xo,xc,g1,g2,_,_,g3⟩:=p1.tab.cell (v:=v) (by omega);obtain ⟨rfl,rfl⟩:=g3 hσ;rw [hσ] at g1;have q:=p2.ints.cut k E;have ce:=Zkd (acap:=cap-k) (bcap:=cap-k) q q (by rw [hlen];unfold maxLen;omega);rw [hlen] at ce;simp only [Zb5,decide_true] at ce;obtain ⟨cs,y1,y2,y3⟩:=p1.tab;refine ⟨p1.cells.1,p0.1,p0.2.1,p1.cells.2.2.1,g1,g2,?_,ce⟩;rw [Zb (Zt y1 v _) v,Array.getElem?_setIfInBounds,if_pos rfl,if_pos (by omega)]
 have HX:Hid (Jc L (u.drop k)=(u.take E).drop k):=m3;have i1:(0:Int)<=(k:Int):=by omega
 have i2:(k:Int)<=(E:Int):=by omega
 have i3:(E:Int)<=(cap:Int):=by omega
 have i4:¬ cap=k:=by omega
 have i5:(0:Int)<=(v:Int):=by omega
 have i6:(v:Int)<100:=by omega
 have i7 : - -(v:Int)=(v:Int):=by omega
 have i8:¬ v=0:=by omega
 have hnil:=Zy1;have HL:Hid (((u.take E).drop k).length=E-k):=hlen;have HS:Hid (σ v=[]):=hσ;have HM:Hid (E-k<=2000):=by show _<=_;omega
 clear h hE m3 m4 hc hlen hσ hx hum
 go_enter func202,ntmps202
 go_wp2_with (first | (go_at_call 203;refine cb.mono ?_;rintro e w1 ⟨rfl,hk1⟩;obtain ⟨d1,d2,d3,d4,e1,e2,f1,ceq⟩:=WW.out w1 hk1) | (go_at_call 204;refine ceq.mono ?_;rintro e w4 ⟨rfl,hk4⟩))
 go_ret;refine ⟨rfl,?_,?_⟩
 ·rw [HX.out];exact (W2.out w1 hk1).same hk4
 ·exact (WK.out w1 hk1).trans hk4 (λ _ _ f=>f.elim)
theorem Zvq {σ:Tb} (h:Y9 N w aB tB sB A b L ao cap u k σ) (h1v:1<=v) (hv:v<=99) (hk:k<=u.length) (hs:Xv L 1 (u.drop k)=some m) (hσ:σ v≠[]) (hb:(σ v).length<=2000) :
  Calls prog 202 #[.int .i64 (-(v:Int)),.pointer (some ⟨aB,0,none⟩),.pointer (some ⟨tB,0,none⟩),.pointer (some ⟨sB,0,none⟩),.pointer (some ⟨A,0,none⟩)] w λ e w' => e=.returned (.bool (Zb5 (σ v) (Jc L (u.drop k))))∧Y9 N w' aB tB sB A b L ao cap u (k+m) σ∧Zc (λ i=>i=aB∨i=A) w w' := by
 obtain ⟨c1,c2,c3,c4⟩:=h.cells;obtain ⟨m1,m2,m3,m4⟩:=Zn8 hs hk;have cb:=Zfs (cap:=cap) h.sg h.ints h.um hk hs;obtain ⟨E,hE⟩:∃ E,E=k+m:=⟨_,rfl⟩;rw [<- hE] at cb m2 m3 m4 ⊢;obtain ⟨tb,off,rfl,htb,hc⟩:=h.ints.get (i:=k) (by omega);have hcap:=h.uc;have hlen:((u.take E).drop k).length=E-k:=by omega
 obtain ⟨⟨pb,po⟩,pc,hp⟩:∃ (z:Nat × Nat) (pc:Nat),w.cell? ⟨A,v,none⟩=some (.slice (some ⟨z.1,z.2,none⟩) (σ v).length pc):=by
  obtain ⟨xo,xc,g1,g2,g3,_,_⟩:=h.tab.cell (v:=v) (by omega);obtain ⟨pb,po,rfl,_⟩:=g3.get (i:=0) (List.length_pos_iff.2 hσ);exact ⟨(pb,po),xc,g1⟩
 simp only at hp;have W1:Hid (∀ w1,Za w w1->Y9 N (w1.setCell ⟨aB,0,none⟩ (.int .i64 (E:Int))) aB tB sB A b L (some ⟨tb,off,none⟩) cap u E σ):=λ w1 hk1=>(h.same hk1).go E
 have WK:Hid (∀ w1,Za w w1->Zc (λ i=>i=aB∨i=A) w (w1.setCell ⟨aB,0,none⟩ (.int .i64 (E:Int)))):=λ w1 hk1=>
  ((hk1.mono (S' := λ i=>i=aB∨i=A) (λ _ _ f=>f.elim)).setCell (p:=⟨aB,0,none⟩) (λ _=>.inl rfl) _)
 have WW:Hid (∀ w1,Za w w1->(w1.setCell ⟨aB,0,none⟩ (.int .i64 (E:Int))).cell? ⟨aB,0,none⟩=some (.int .i64 (E:Int))∧w1.cell? ⟨aB,0,none⟩=some (.int .i64 (k:Int))∧w1.frozen? ⟨aB,0,none⟩=false∧(w1.setCell ⟨aB,0,none⟩ (.int .i64 (E:Int))).cell? ⟨tB,0,none⟩=some (.slice (some ⟨tb,off,none⟩) u.length cap)∧(w1.setCell ⟨aB,0,none⟩ (.int .i64 (E:Int))).cell? ⟨A,v,none⟩=some (.slice (some ⟨pb,po,none⟩) (σ v).length pc) ∧
   Calls prog 204 #[.slice (some ⟨pb,po,none⟩) (σ v).length pc,.slice (some ⟨tb,off+k,none⟩) (E-k) (cap-k)] (w1.setCell ⟨aB,0,none⟩ (.int .i64 (E:Int))) λ e w' => e=.returned (.bool (Zb5 (σ v) ((u.take E).drop k)))∧Za (w1.setCell ⟨aB,0,none⟩ (.int .i64 (E:Int))) w'):=λ w1 hk1=>by
  have p0:=(h.same hk1).cells;have p1:=W1.out w1 hk1;obtain ⟨xo,xc,g1,g2,g4,_,g3⟩:=p1.tab.cell (v:=v) (by omega)
  have hp1:w1.cell? ⟨A,v,none⟩=some (.slice (some ⟨pb,po,none⟩) (σ v).length pc):=by
   obtain ⟨cs,y1,_⟩:=h.tab;exact (hk1.cell (p:=⟨A,v,none⟩) (Zi y1) (λ f=>f)).trans hp
  have hp2:(w1.setCell ⟨aB,0,none⟩ (.int .i64 (E:Int))).cell? ⟨A,v,none⟩=some (.slice (some ⟨pb,po,none⟩) (σ v).length pc):=by
   have kk:Zc (λ i=>i=aB) w1 (w1.setCell ⟨aB,0,none⟩ (.int .i64 (E:Int))):=Zc.setCell (p:=⟨aB,0,none⟩) (Zc.refl (λ i=>i=aB) w1) (λ _=>rfl) _;obtain ⟨cs,y1,_⟩:=h.tab;exact (kk.cell (p:=⟨A,v,none⟩) (Nat.lt_of_lt_of_le (Zi y1) hk1.size) (λ e=>h.ne.2.2.2.2.2.2.1 e.symm)).trans hp1
  rw [hp2] at g1;cases g1;have q:=p1.ints.cut k E;have ce:=Zkd (acap:=pc) (bcap:=cap-k) g4 q (by unfold maxLen;omega);rw [hlen] at ce;exact ⟨p1.cells.1,p0.1,p0.2.1,p1.cells.2.2.1,hp2,ce⟩
 have HX:Hid (Jc L (u.drop k)=(u.take E).drop k):=m3;have i1:(0:Int)<=(k:Int):=by omega
 have i2:(k:Int)<=(E:Int):=by omega
 have i3:(E:Int)<=(cap:Int):=by omega
 have i4:¬ cap=k:=by omega
 have i5:(0:Int)<=(v:Int):=by omega
 have i6:(v:Int)<100:=by omega
 have i7 : - -(v:Int)=(v:Int):=by omega
 have i8:¬ v=0:=by omega
 have hnil:=Zy1;clear h hE m3 m4 hc hlen hσ hp
 go_enter func202,ntmps202
 go_wp2_with (first | (go_at_call 203;refine cb.mono ?_;rintro e w1 ⟨rfl,hk1⟩;obtain ⟨d1,d2,d3,d4,e1,ceq⟩:=WW.out w1 hk1) | (go_at_call 204;refine ceq.mono ?_;rintro e w4 ⟨rfl,hk4⟩))
 go_ret;refine ⟨by rw [HX.out];rfl,?_,?_⟩
 ·exact (W1.out w1 hk1).same hk4
 ·exact (WK.out w1 hk1).trans hk4 (λ _ _ f=>f.elim)
theorem Zc.setRow {a:World} (h:Zc S a w) (hg:g<a.heap.size->S g) (cs:Array Value):Zc S a (w.setRow g cs):=
 h.trans (S' := λ k=>k=g) ⟨rfl,rfl,rfl,by simp [World.setRow],λ k _ hn=>by simp only [World.setRow,Array.getElem?_modify];rw [if_neg (λ e=>hn e.symm)]⟩ (λ i hi e=>by subst e;exact hg hi)
theorem Zbm {t:TypeId} {fr:Nat × Nat} (h:w.heap[g]? = some (.cells old t fr)):(w.setRow g cs).heap[g]? = some (.cells cs t fr):=by
 simp [World.setRow,Array.getElem?_modify,h]
theorem Ve:(prog.info? 279).map (·.size)=some 100:=by kernel_rfl
theorem Vj (hg:w.heap[g]? = some (.cells cs 279 (0,0))) (h:cs.size=100):(loadVar 279 ⟨g,0,none⟩).run prog w=.ok (.agg cs) w:=
 run_loadVar_row w g _ _ cs (0,0) _ hg underlying279 rfl (by rw [h];exact Ve)
theorem Ze5 (hg:w.heap[g]? = some (.cells old 279 (0,0))) (ho:old.size=100) (h:cs.size=100) (h1:cs.all (·.oneCell')=true):(storeVar 279 ⟨g,0,none⟩ (.agg cs)).run prog w=.ok () (w.setRow g cs):=
 run_storeVar_row w g _ _ old cs hg (by rw [h];exact Ve) (by omega) h1
theorem Ys (hg:w.heap[g]? = some (.cells old 279 (0,0))) (ho:old.size=100) (h:cs.size=100) (h1:cs.all (·.oneCell')=true):(storeCells ⟨g,0,none⟩ cs.toList 0).run prog w=.ok () (w.setRow g cs):=by
 have:=Ze5 hg ho h h1;have hi:=Ve;cases hq:prog.info? 279 with
 | none=>simp [hq] at hi
 | some i=>
  have hs:cs.size=i.size:=by simp [hq] at hi;omega
  simpa [storeVar,sizeOf,typeInfo,hq,Value.cells,hs] using this
theorem Za5 {t:TypeId} (hg:w.heap[g]? = some (.cells cs t (0,0))) (h:cs.size=100):(loadCellsFrom ⟨g,0,none⟩ 0 100 #[]).run prog w=.ok cs w:=by
 have:=run_loadCells_list (P:=prog) w ⟨g,0,none⟩ cs.toList (λ j v hv=>by
  have hadd:(⟨g,0,none⟩:Addr).add j=⟨g,j,none⟩:=by unfold Addr.add;split <;> simp_all
  rw [hadd,Zb hg j]
  simpa using hv)
 simpa [loadCells,h] using this
theorem Zf5.one {σ:Tb} (h:Zf5 N w cs σ):cs.all (·.oneCell')=true:=by
 rw [Array.all_eq_true];intro i hi;obtain ⟨ao,cap,h1,_⟩:=h.2 i (by have:=h.1;omega);rw [Array.getElem?_eq_getElem hi] at h1;simp only [Option.some.injEq] at h1;rw [h1];rfl
structure Zer (Z:Array Value) (w wr:World) (b:Nat) (L:List Sym) (po:Option Addr) (p:List Int) (ao:Option Addr) (cap:Nat) (u:List Int) (i k:Nat) (σ:Tb):Prop where
 pass:Y9 w.heap.size wr (w.heap.size+1+1+1+1) (w.heap.size+1) w.heap.size (w.heap.size+1+1+1) b L ao cap u k σ
 res:wr.heap[w.heap.size+1+1]? = some (.cells Z 279 (0,0))
 pat:Zh wr po p
 mw:Proofs.YtmjgnfkbnofjoaaGreatDoor.mw L p u noT=Proofs.YtmjgnfkbnofjoaaGreatDoor.mw L (p.drop i) (u.drop k) σ
 even:Zon L (p.drop i) (u.drop k)
 kle:k<=u.length
 bnd:Bnd σ
 kept:Zc (From w.heap.size) w wr
theorem Zqc (hZ:Z=Array.replicate 100 (.slice none 0 0)) (h:Sg w.heap.size w b L) {pcap:Nat} (hp:Zh w po p) (hu:Zh w ao u) (hum:u.length<=2000) (huc:u.length<=cap) (he:Zon L p u) (hpn:0<u.length) :
  Zer Z w (((((w.alloc (.cells #[.pointer (some ⟨b,0,none⟩)] 41)).alloc (.cells #[.slice ao u.length cap] 74)).alloc (.cells Z 279)).alloc (.cells Z 279)).alloc (.cells #[.int .i64 0] 3)) b L po p ao cap u 0 0 noT:=by
 obtain ⟨w1,e1⟩:∃ w1,w1=w.alloc (.cells #[.pointer (some ⟨b,0,none⟩)] 41):=⟨_,rfl⟩;obtain ⟨w2,e2⟩:∃ w2,w2=w1.alloc (.cells #[.slice ao u.length cap] 74):=⟨_,rfl⟩;obtain ⟨w3,e3⟩:∃ w3,w3=w2.alloc (.cells Z 279):=⟨_,rfl⟩;obtain ⟨w4,e4⟩:∃ w4,w4=w3.alloc (.cells Z 279):=⟨_,rfl⟩;obtain ⟨w5,e5⟩:∃ w5,w5=w4.alloc (.cells #[.int .i64 0] 3):=⟨_,rfl⟩;rw [<- e1,<- e2,<- e3,<- e4,<- e5];have z1:w1.heap.size=w.heap.size+1:=by rw [e1,World.size_alloc]
 have z2:w2.heap.size=w.heap.size+1+1:=by rw [e2,World.size_alloc,z1]
 have z3:w3.heap.size=w.heap.size+1+1+1:=by rw [e3,World.size_alloc,z2]
 have z4:w4.heap.size=w.heap.size+1+1+1+1:=by rw [e4,World.size_alloc,z3]
 have k1:Za w w1:=by rw [e1];exact (Zc.refl _ w).alloc _
 have k2:Za w1 w2:=by rw [e2];exact (Zc.refl _ w1).alloc _
 have k3:Za w2 w3:=by rw [e3];exact (Zc.refl _ w2).alloc _
 have k4:Za w3 w4:=by rw [e4];exact (Zc.refl _ w3).alloc _
 have k5:Za w4 w5:=by rw [e5];exact (Zc.refl _ w4).alloc _
 have K:Za w w5:=(((k1.trans' k2).trans' k3).trans' k4).trans' k5;have b1:w1.heap[w.heap.size]? = some (.cells #[.pointer (some ⟨b,0,none⟩)] 41 (0,0)):=by rw [e1];exact heap_alloc_new _ _
 have b2:w2.heap[w.heap.size+1]? = some (.cells #[.slice ao u.length cap] 74 (0,0)):=by rw [<- z1,e2];exact heap_alloc_new _ _
 have b3:w3.heap[w.heap.size+1+1]? = some (.cells Z 279 (0,0)):=by rw [<- z2,e3];exact heap_alloc_new _ _
 have b4:w4.heap[w.heap.size+1+1+1]? = some (.cells Z 279 (0,0)):=by rw [<- z3,e4];exact heap_alloc_new _ _
 have b5:w5.heap[w.heap.size+1+1+1+1]? = some (.cells #[.int .i64 0] 3 (0,0)):=by rw [<- z4,e5];exact heap_alloc_new _ _
 refine ⟨⟨b5,((k3.trans' k4).trans' k5).at0 b2,(((k2.trans' k3).trans' k4).trans' k5).at0 b1,⟨_,k5.at0 b4,hZ ▸ Zbx _ _⟩,hu.same K,?_,huc,hum,h.same K,by omega,by omega,by omega,by omega,by omega,by omega,by omega,by omega,by omega⟩,(k4.trans' k5).at0 b3,hp.same K,rfl,he,by omega,λ v=>by simp [noT],Zc.mono K (λ _ _ f=>f.elim)⟩;intro a e;subst e;obtain ⟨b', off,e,hlt,_⟩:=hu.get hpn;cases e;exact hlt
theorem Zer.next {k':Nat} {σ σ' : Tb} (h:Zer Z w wr b L po p ao cap u i k σ) (hpo:∀ a,po=some a->p=[]∨a.block<w.heap.size)
  (h1:Y9 w.heap.size w' (w.heap.size+1+1+1+1) (w.heap.size+1) w.heap.size (w.heap.size+1+1+1) b L ao cap u k' σ') (h2:Zc (λ i=>i=w.heap.size+1+1+1+1∨i=w.heap.size+1+1+1) wr w')
  (h3:Proofs.YtmjgnfkbnofjoaaGreatDoor.mw L (p.drop i) (u.drop k) σ=Proofs.YtmjgnfkbnofjoaaGreatDoor.mw L (p.drop (i+1)) (u.drop k') σ') (h4:Zon L (p.drop (i+1)) (u.drop k')) (h5:k' <= u.length) (h6:Bnd σ'):Zer Z w w' b L po p ao cap u (i+1) k' σ' := by
 refine ⟨h1,h2.at h.res (by omega),?_,h.mw.trans h3,h4,h5,h6,h.kept.trans h2 (λ i hi e=>by rcases e with e | e <;> omega)⟩
 rcases h.pat with e | ⟨b', off,e,hlt,hc⟩
 ·exact .inl e
 ·subst e
  rcases hpo _ rfl with e | e
  ·exact .inl e
  ·exact Zh.kept (.inr ⟨b', off,rfl,hlt,hc⟩) h2 (λ a ea=>by cases ea;rintro (f | f) <;> (simp only at f e;omega))
theorem Zr4 {σ:Tb} (h:Bnd σ) {x:List Int} (hx:x.length<=2000):Bnd (Zjt σ v x):=λ y=>by
 unfold Zjt;split
 ·exact hx
 ·exact h y
theorem Zt8 {σ:Tb} (hW:Zer Z w wr b L po p ao cap u i k σ) (hpo:∀ a,po=some a->p=[]∨a.block<w.heap.size) (hlt:i<p.length) (hv : -99<=p[i]) :
  (∃ k' σ', Calls prog 202 #[.int .i64 p[i],.pointer (some ⟨w.heap.size+1+1+1+1,0,none⟩),.pointer (some ⟨w.heap.size+1,0,none⟩),.pointer (some ⟨w.heap.size,0,none⟩),.pointer (some ⟨w.heap.size+1+1+1,0,none⟩)] wr λ e w' => e=.returned (.bool true)∧Zer Z w w' b L po p ao cap u (i+1) k' σ') ∨
  (mw L p u noT=none∧Calls prog 202 #[.int .i64 p[i],.pointer (some ⟨w.heap.size+1+1+1+1,0,none⟩),.pointer (some ⟨w.heap.size+1,0,none⟩),.pointer (some ⟨w.heap.size,0,none⟩),.pointer (some ⟨w.heap.size+1+1+1,0,none⟩)] wr λ e w' => e=.returned (.bool false)∧w'.heap[w.heap.size+1+1]? = some (.cells Z 279 (0,0))∧Za w w'):=by
 have hd:p.drop i=p[i] :: p.drop (i+1):=List.drop_eq_getElem_cons hlt;have hev:=hW.even;rw [hd] at hev;obtain ⟨x,ts', hx,q1,q2⟩:=hev.cons
 have hku:k<u.length:=by
  have:=congrArg List.length hx;simp at this;omega
 have hum:=hW.pass.um;have hx2:u.drop k=u[k] :: u.drop (k+1):=List.drop_eq_getElem_cons hku;have bad:∀ w', Zc (λ i=>i=w.heap.size+1+1+1+1∨i=w.heap.size+1+1+1) wr w' -> w'.heap[w.heap.size+1+1]? = some (.cells Z 279 (0,0))∧Za w w' := λ w' g2=>⟨g2.at hW.res (by omega),Zfo (hW.kept.trans g2 (λ i hi e=>by rcases e with e | e <;> omega))⟩
 by_cases hn:0<=p[i]
 ·have c:=Zvh hW.pass p[i] hn hku
  by_cases hq:u[k]=p[i]
  ·left
   rw [hx2] at hx;simp only [List.cons.injEq] at hx;refine ⟨k+1,σ,c.mono ?_⟩;rintro e w' ⟨rfl,g1,g2⟩;exact ⟨by simp [hq],hW.next hpo g1 g2 (by rw [hd,hx2,Zi0 hn,if_pos hq]) (by rw [hx.2];exact q1 hn (by rw [<- hx.1];exact hq)) (by omega) hW.bnd⟩
  ·right
   refine ⟨by rw [hW.mw,hd,hx2,Zi0 hn,if_neg hq],c.mono ?_⟩;rintro e w' ⟨rfl,g1,g2⟩;exact ⟨by simp [hq],bad w' g2⟩
 ·obtain ⟨m,g1,g2,g3,g4,g5,g6⟩:=q2 hn
  rw [List.length_drop] at g3;rw [List.drop_drop] at g6;obtain ⟨v,hvv⟩:∃ v:Nat,v=(-p[i]).toNat:=⟨_,rfl⟩;have hpv:p[i] = -(v:Int):=by omega
  by_cases hs:σ v=[]
  ·left
   have c:=Zuv hW.pass (v:=v) (by omega) (by omega) (by omega) g1 hs;rw [<- hpv] at c;refine ⟨k+m,Zjt σ v (Jc L (u.drop k)),c.mono ?_⟩;rintro e w' ⟨rfl,y1,y2⟩;refine ⟨rfl,hW.next hpo y1 y2 ?_ g6 (by omega) (Zr4 hW.bnd (by omega))⟩;rw [hd,Znk hn (by rw [<- hvv];exact hs),g5,List.drop_drop,<- hvv]
  ·have c:=Zvq hW.pass (v:=v) (by omega) (by omega) (by omega) g1 hs (hW.bnd v)
   rw [<- hpv] at c
   by_cases hq:σ v=Jc L (u.drop k)
   ·left
    refine ⟨k+m,σ,c.mono ?_⟩;rintro e w' ⟨rfl,y1,y2⟩;refine ⟨by rw [<- hq];simp [Zb5],hW.next hpo y1 y2 ?_ g6 (by omega) hW.bnd⟩;rw [hd,Znt hn (by rw [<- hvv];exact hs),g5,List.drop_drop,<- hvv,if_pos hq]
   ·right
    refine ⟨by rw [hW.mw,hd,Znt hn (by rw [<- hvv];exact hs),<- hvv,if_neg hq],c.mono ?_⟩;rintro e w' ⟨rfl,y1,y2⟩;exact ⟨by simp [Zb5,hq],bad w' y2⟩
theorem Zwe (h:Sg w.heap.size w b L) (hp:Zh w po p) (hu:Zh w ao u) (hpm:p.length<=2000) (hum:u.length<=2000) (huc:u.length<=cap) (hpv:∀ x∈p, -99<=x) (he:Zon L p u) (hpn:0<u.length) :
  Calls prog 157 #[.pointer (some ⟨b,0,none⟩),.slice po p.length pcap,.slice ao u.length cap] w λ e w' => ∃ cs f,e=.returned (.tuple #[.agg cs,.bool f])∧Za w w' ∧ (∀ σ,mw L p u noT=some σ->f=true∧Zf5 w.heap.size w' cs σ∧Bnd σ)∧(mw L p u noT=none->f=false∧Zf5 w.heap.size w' cs noT):=by
 obtain ⟨Z,hZ⟩:∃ Z:Array Value,Z=Array.replicate 100 (.slice none 0 0):=⟨_,rfl⟩;have hz:Tryz.zeroCells279=Z:=Kh.trans hZ.symm;have hmf:∀ (fn:Fn) (first cap:Array Value) (w:World),(Instr.makeFunc fn first cap).run prog w=.ok (.func fn first cap) w:=λ _ _ _ _=>rfl;have W0:=Zqc (po:=po) (pcap:=pcap) (cap:=cap) hZ h hp hu hum huc he hpn
 have hpo:Hid (∀ a,po=some a->p=[]∨a.block<w.heap.size):=λ a e=>by
  rcases hp with e' | ⟨b', off,e', hlt,_⟩
  ·exact .inl e'
  ·subst e;cases e'; exact .inr hlt
 have HV:Hid (∀ x∈p, -99<=x):=hpv;have HZ:Hid (Z=Array.replicate 100 (.slice none 0 0)):=hZ;have hZs:Z.size=100:=by rw [hZ];simp
 have HST:Hid (∀ w' : World,w'.heap[w.heap.size+1+1]? = some (.cells Z 279 (0,0))->(storeCells ⟨w.heap.size+1+1,0,none⟩ Z.toList 0).run prog w' = .ok () (w'.setRow (w.heap.size+1+1) Z)):=λ w' hr=>Ys hr hZs hZs (by rw [hZ];exact (Zbx 0 w').one);clear hpv hZ
 go_enter func157,ntmps157
 go_wp2
 go_loopw [16] (λ iv wr=>∃ (i k:Nat) (σ:Tb),i<=p.length∧iv=.int .i64 (i:Int)∧Zer Z w wr b L po p ao cap u i k σ) (λ iv _=>p.length-(intOf iv).toNat)
 case atStart=>exact ⟨0,0,noT,Nat.zero_le _,rfl,W0⟩
 case round=>
  clear W0;obtain ⟨i,k,σ,hi,rfl,hW⟩:=hrel
  by_cases hlt:i<p.length
  ·obtain ⟨pb,off,rfl,hpb,hc⟩:=hW.pat.get hlt
   have i1:(0:Int)<=(i:Int):=by omega
   have i2:(i:Int)<(p.length:Int):=by omega
   rcases Zt8 hW hpo.out hlt (HV.out _ (List.getElem_mem hlt)) with ⟨k', σ', cc⟩ | ⟨hnone,cc⟩
   ·clear hW
    go_wp2_with (go_at_call 202;refine cc.mono ?_;rintro e w' ⟨rfl,hW'⟩)
    exact ⟨⟨i+1,k', σ', by omega,by go_num,hW'⟩,by simp [intOf];omega⟩
   ·have HN:Hid (mw L p u noT=none):=hnone
    clear hnone hW
    go_wp2_with (go_at_call 202;refine cc.mono ?_;rintro e w' ⟨rfl,hr,hk⟩;have hst:=HST.out w' hr)
    have k1:Za w (w'.setRow (w.heap.size+1+1) Z):=hk.setRow (λ e=>by omega) Z;refine bodyPost_ret (v:=.tuple #[.agg Z,.bool false]) ?_ rfl ⟨Z,false,rfl,k1,λ σ e=>?_,λ _=>⟨rfl,?_⟩⟩
    ·rw [results_cell_tmp rfl]
     simp [asAddr,Result.andThen,Vj (Zbm hr) hZs]
    ·rw [HN.out] at e;cases e
    ·rw [HZ.out];exact Zbx _ _
  ·have hn:p.drop i=[]:=List.drop_eq_nil_of_le (by omega)
   have H:Hid (mw L p u noT=some σ):=by
    have:=hW.mw;rw [hn] at this;exact this.trans rfl
   have hb:=hW.bnd;have hr:=hW.res;have hk:=Zfo hW.kept;obtain ⟨cs,t1,t2⟩:=hW.pass.tab;have hcs:=t2.1;have hcl:cs.toList.length=100:=by simpa using hcs
   have hld:=Za5 t1 hcs;have hst:=Ys hr hZs hcs t2.one;have T2:Hid (Zf5 w.heap.size wr cs σ):=t2;clear hW hn t2;go_wp2;refine wp_load_row 279 (.tmp 8) rfl _ rfl _ cs (0,0) _ t1 underlying279 rfl (by rw [hcs];exact Ve) ?_;go_wp2;have k1:Za w (wr.setRow (w.heap.size+1+1) cs):=hk.setRow (λ e=>by omega) cs;refine bodyPost_ret (v:=.tuple #[.agg cs,.bool true]) ?_ rfl ⟨cs,true,rfl,k1,λ σ' e=>?_,λ e=>?_⟩
   ·rw [results_cell_tmp rfl]
    simp [asAddr,Result.andThen,Vj (Zbm hr) hcs]
   ·rw [H.out] at e
    cases e
    exact ⟨rfl,T2.out.kept ((Zc.refl (λ i=>i=w.heap.size+1+1) wr).setRow (λ _=>rfl) cs) (λ k hk e=>by omega),hb⟩
   ·rw [H.out] at e;cases e
theorem Zs7:(prog.info? 321).map (λ i=>(i.zero,i.size,i.bytes))=some (some (.agg #[.int .i64 0,.slice none 0 0]),2,32):=by kernel_rfl
def Kc (l:List (Int × Value)):List Value:=l.flatMap (λ p=>[.int .i64 p.1,p.2])
theorem Zk5 (l:List (Int × Value)) (p:Int × Value):Kc (l ++ [p])=Kc l ++ [.int .i64 p.1,p.2]:=by simp [Kc]
theorem Zql (h:i<l.length):(Kc l)[i * 2]? = some (.int .i64 l[i].1)∧(Kc l)[i * 2+1]? = some l[i].2:=by
 induction l generalizing i with
 | nil=>simp at h
 | cons x r ih=>
  have e:Kc (x :: r)=.int .i64 x.1 :: x.2 :: Kc r:=by simp [Kc]
  rw [e];cases i with
  | zero=>simp
  | succ j=>
   obtain ⟨a,b⟩:=ih (i:=j) (by simpa using h);have e1:(j+1) * 2=j * 2+1+1:=by omega
   rw [e1];exact ⟨by simpa using a,by simpa using b⟩
theorem Zlr {o:Oper} (hgd:o.guard=none) (s x:Operand)
  (ho:o.op=.call { callee:=.builtin .append,args:=#[s,x],argTypes:=#[216,216] })
  (base:Nat) (l:List (Int × Value)) (v:Value) (hs:a.eval s=v) (hr:w0.ownsRow base 321 2 v l.length (Kc l)) (n:Int) (tO:Option Addr) (tl tc:Nat) (hx:a.eval x=.slice (some ⟨w0.heap.size,0,none⟩) 1 1) (hb:base<=w0.heap.size) (hsz:l.length<=140737488000)
  (h:∀ g cap w', w'.ownsRow base 321 2 (.slice (some ⟨g,0,none⟩) (l.length+1) cap) (l.length+1) (Kc l ++ [.int .i64 n,.slice tO tl tc])->Zc (λ k=>v.ownBlock=some k) w0 w' -> (v.ownBlock=some g∨w0.heap.size<=g)->wpList prog ops Q rest (a.put o.dst (.slice (some ⟨g,0,none⟩) (l.length+1) cap)) w') :
  wpList prog ops Q (o :: rest) a (w0.alloc (.cells #[.int .i64 n,.slice tO tl tc] 321)):=by
 obtain ⟨i,hi,hz0,hz1,hz2⟩:=info_parts Zs7;refine wpList_append_lies _ hgd s x 216 ho base 321 i _ 2 32 underlying216 hi hz0 hz1 hz2 rfl (by decide) v l.length (Kc l) hs (World.ownsRow.alloc hr _) ⟨w0.heap.size,0,none⟩ 1 1 [.int .i64 n,.slice tO tl tc] hx rfl (World.news_of_block (cs:=#[.int .i64 n,.slice tO tl tc]) (t:=321) (fr:=(0,0)) (heap_alloc_new w0 _)) (by simp [Value.oneCell']) (by omega) (by unfold maxLen;omega) (by omega) (by simp;omega) (w0.heap.size+1) (by simp) ?_;intro g cap w' hown hgrow hat hlt;refine h g cap w' hown ?_ (hat.imp id (λ e=>by omega));exact Zc.grown (Zc.alloc (Zc.refl _ w0) _) hgrow (λ _ e _=>e)
structure Zff (base:Nat) (w:World) (v:Value) (l:List (Int × Value)) (bs:List Bd):Prop where
 row:w.ownsRow base 321 2 v l.length (Kc l)
 len:l.length=bs.length
 each:∀ i (h:i<l.length) (h' : i<bs.length),l[i].1=bs[i].1∧Row base w l[i].2 bs[i].2∧∀ k,l[i].2.ownBlock=some k->v.ownBlock≠some k
 apart:∀ i j (hi:i<l.length) (hj:j<l.length),i≠j->∀ k,l[i].2.ownBlock=some k->l[j].2.ownBlock≠some k
theorem Zff.nil (base:Nat) (w:World):Zff base w (.slice none 0 0) [] []:=⟨World.ownsRow_nil _ _ _ _,rfl,λ i h=>by simp at h,λ i j h=>by simp at h⟩
theorem Zff.kept {v:Value} (h:Zff base w v l bs) (hk:Zc S w w') (hs:∀ k,base<=k->k<w.heap.size->¬ S k):Zff base w' v l bs:=
 ⟨hk.row h.row (λ k e=>hs k (h.row.lt k e).1 (h.row.lt k e).2),h.len,λ i h1 h2=>⟨(h.each i h1 h2).1,hk.row (h.each i h1 h2).2.1 (λ k e=>hs k ((h.each i h1 h2).2.1.lt k e).1 ((h.each i h1 h2).2.1.lt k e).2),(h.each i h1 h2).2.2⟩,h.apart⟩
theorem Zff.same {v:Value} (h:Zff base w v l bs) (hk:Za w w'):Zff base w' v l bs:=h.kept hk (λ _ _ _ f=>f)
theorem Zff.more {w2:World} {lv tv:Value} {n:Int} (h:Zff base wr lv l bs) (k1:Za wr w1) (hb:base<=wr.heap.size) (ht:Row wr.heap.size w1 tv xs)
  (hr:w2.ownsRow base 321 2 (.slice (some ⟨g,0,none⟩) (l.length+1) cap) (l.length+1) (Kc l ++ [.int .i64 n,tv])) (k2:Zc (λ k=>lv.ownBlock=some k) w1 w2) (hat:lv.ownBlock=some g∨w1.heap.size<=g) :
  Zff base w2 (.slice (some ⟨g,0,none⟩) (l.length+1) cap) (l ++ [(n,tv)]) (bs ++ [(n,xs)]):=by
 have z1:=k1.size;have hl:=h.len;have own:∀ k,lv.ownBlock=some k->k<wr.heap.size:=λ k e=>(h.row.lt k e).2;have tl:∀ k,tv.ownBlock=some k->wr.heap.size<=k∧k<w1.heap.size:=λ k e=>ht.lt k e;have ol:∀ i (hi:i<l.length) k,l[i].2.ownBlock=some k->k<wr.heap.size:=λ i hi k e=>((h.each i hi (by omega)).2.1.lt k e).2;refine ⟨?_,by simp [hl],λ i h1 h2=>?_,λ i j hi hj hij k e=>?_⟩
 ·rw [Zk5,List.length_append];exact hr
 ·by_cases hi:i<l.length
  ·have hi' : i<bs.length:=by omega
   obtain ⟨e1,e2,e3⟩:=h.each i hi hi';rw [List.getElem_append_left hi,List.getElem_append_left hi'];refine ⟨e1,k2.row (k1.row e2 (λ _ _ f=>f)) (λ k e=>e3 k e),λ k e=>?_⟩;simp only [Value.ownBlock,ne_eq,Option.some.injEq];rintro rfl
   rcases hat with y | y
   ·exact e3 _ e y
   ·have:=ol i hi _ e;omega
  ·have hi2:i=l.length:=by simp at h1;omega
   subst hi2;have e1:(l ++ [(n,tv)])[l.length]=(n,tv):=by simp
   have e2:(bs ++ [(n,xs)])[l.length]=(n,xs):=by simp [hl]
   rw [e1,e2];refine ⟨rfl,Yy (k2.row ht (λ k e f=>by have:=own k f;have:=(tl k e).1;omega)) hb,λ k e=>?_⟩;simp only [Value.ownBlock,ne_eq,Option.some.injEq];rintro rfl;have:=tl _ e
   rcases hat with y | y
   ·have:=own _ y;omega
   ·omega
 ·by_cases hi1:i<l.length
  ·rw [List.getElem_append_left hi1] at e
   by_cases hj1:j<l.length
   ·rw [List.getElem_append_left hj1]
    exact h.apart i j hi1 hj1 hij k e
   ·have:j=l.length:=by simp at hj;omega
    subst this;have e1:(l ++ [(n,tv)])[l.length]=(n,tv):=by simp
    rw [e1];intro y;have:=(tl k y).1;have:=ol i hi1 k e;omega
  ·have hi2:i=l.length:=by simp at hi;omega
   subst hi2;have e1:(l ++ [(n,tv)])[l.length]=(n,tv):=by simp
   rw [e1] at e;have hj1:j<l.length:=by simp at hj;omega
   rw [List.getElem_append_left hj1];intro y;have:=(tl k e).1;have:=ol j hj1 k y;omega
theorem Ztt {σ:Tb} (h:Ky N w A σ) (hb:Bnd σ) :
  Calls prog 158 #[.pointer (some ⟨A,0,none⟩)] w λ e w' => ∃ v l,e=.returned v∧Zff w.heap.size w' v l (blN σ 100)∧Za w w' := by
 have hnil:=Zrg
 go_enter func158,ntmps158
 go_wp2
 go_loopw [3,8] (λ lv iv wr=>∃ (i:Nat) (l:List (Int × Value)),i<=100∧iv=.int .i64 (i:Int)∧Zff w.heap.size wr lv l (blN σ i)∧Za w wr) (λ _ iv _=>100-(intOf iv).toNat)
 case atStart=>exact ⟨0,[],by omega,rfl,Zff.nil _ _,Zc.refl _ _⟩
 case round=>
  obtain ⟨i,l,hi,rfl,hB,hs⟩:=hrel;obtain ⟨lo,lc,rfl⟩:=Zf hB.row
  by_cases hlt:i<100
  ·obtain ⟨ao,cap,c1,c2,c3,c4,c5⟩:=(h.same hs).cell hlt
   have i1:(0:Int)<=(i:Int):=by omega
   have i2:(i:Int)<100:=by omega
   have d1:wr.drew.cell? ⟨A,i,none⟩=some (.slice ao (σ i).length cap):=c1
   by_cases hσ:σ i=[]
   ·obtain ⟨rfl,rfl⟩:=c5 hσ
    have HB:Hid (blN σ (i+1)=blN σ i):=Zw1 hσ;clear c5 hσ;go_wp2;go_quiet (fail);go_wp2;refine ⟨⟨i+1,l,by omega,by go_num,?_,hs.drewN _⟩,by simp [intOf];omega⟩;rw [HB.out];exact hB.same ((Zc.refl _ wr).drewN _)
   ·have hpos:0<(σ i).length:=List.length_pos_iff.2 hσ
    have HB:Hid (blN σ (i+1)=blN σ i ++ [((i:Int),σ i)]):=Zrp hσ;have hlen:l.length<=100:=by have:=hB.len;have:=Zxx σ i;omega
    obtain ⟨ab,off,rfl,_,_⟩:=c3.get hpos
    have cc:Hid (∀ m,Calls prog 123 #[.slice (some ⟨ab,off,none⟩) (σ i).length cap] (wr.drewN m) λ e w' => ∃ tO tc,e=.returned (.slice tO (σ i).length tc)∧Row wr.heap.size w' (.slice tO (σ i).length tc) (σ i)∧Za wr w'):=λ m=>by
     have kd:Za wr (wr.drewN m):=(Zc.refl _ wr).drewN m;refine (Zfu (cap:=cap) (c3.same kd) hpos (hb i)).mono ?_;rintro e w' ⟨v,rfl,hr,hk⟩;obtain ⟨tO,tc,rfl⟩:=Zf hr;exact ⟨tO,tc,rfl,hr,kd.trans' hk⟩
    have hbs:=hs.size;clear c5 hσ;go_wp2;go_quiet (fail)
    go_wp2_with (first | (go_at_call 123;refine (cc.out _).mono ?_;rintro e w1 ⟨tO,tc,rfl,hr1,hk1⟩;have hrow1:=hk1.row hB.row (λ _ _ f=>f);have hb1:w.heap.size<=w1.heap.size:=Nat.le_trans hbs hk1.size) | (at_builtin;refine Zlr rfl _ _ rfl w.heap.size l _ rfl hrow1 (i:Int) tO (σ i).length tc rfl hb1 (by omega) ?_;intro g gcap w2 hr2 hk2 hat2))
    have hB2:=hB.more hk1 hbs hr1 hr2 hk2 hat2;have hs2:Za w w2:=(hs.trans' hk1).trans hk2 (λ k hk e=>by have:=(hB.row.lt k e).1;omega);rw [<- HB.out] at hB2;go_roundw
    case rel=>first | exact ⟨i+1,l ++ [((i:Int),.slice tO (σ i).length tc)],by omega,by go_num,hB2,hs2⟩ | ((repeat apply Exists.intro);exact ⟨⟨i+1,l ++ [((i:Int),.slice tO (σ i).length tc)],by omega,by go_num,hB2,hs2⟩,rfl⟩)
    case measure=>simp [intOf];omega
  ·obtain rfl:i=100:=by omega
   go_wp2;go_ret;exact ⟨_,l,rfl,hB,hs⟩
def Jd (w:World) (lo:Option Addr) (bs:List Bd):Prop:=
 bs=[]∨∃ b off,lo=some ⟨b,off,none⟩∧b<w.heap.size∧∀ i (h:i<bs.length),w.cell? ⟨b,off+i * 2,none⟩=some (.int .i64 bs[i].1)∧∃ ao cap,w.cell? ⟨b,off+i * 2+1,none⟩=some (.slice ao bs[i].2.length cap)∧Zh w ao bs[i].2∧bs[i].2.length<=cap∧(ao=none->bs[i].2.length=0∧cap=0)
theorem Jd.same (h:Jd w lo bs) (hk:Za w w'):Jd w' lo bs:=by
 refine h.imp id ?_;rintro ⟨b,off,rfl,hlt,hc⟩;refine ⟨b,off,rfl,Nat.lt_of_lt_of_le hlt hk.size,λ i hi=>?_⟩;obtain ⟨c1,ao,cap,c2,c3,c4,c5⟩:=hc i hi;exact ⟨(hk.cell (p:=⟨b,off+i * 2,none⟩) hlt (λ f=>f)).trans c1,ao,cap,(hk.cell (p:=⟨b,off+i * 2+1,none⟩) hlt (λ f=>f)).trans c2,c3.same hk,c4,c5⟩
theorem Jd.get (h:Jd w lo bs) (hi:i<bs.length):∃ b off ao cap,lo=some ⟨b,off,none⟩∧b<w.heap.size∧w.cell? ⟨b,off+i * 2,none⟩=some (.int .i64 bs[i].1)∧w.cell? ⟨b,off+i * 2+1,none⟩=some (.slice ao bs[i].2.length cap)∧Zh w ao bs[i].2∧bs[i].2.length<=cap∧(ao=none->bs[i].2.length=0∧cap=0):=by
 rcases h with rfl | ⟨b,off,e,hlt,hc⟩
 ·simp at hi
 ·obtain ⟨c1,ao,cap,c2,c3,c4,c5⟩:=hc i hi
  exact ⟨b,off,ao,cap,e,hlt,c1,c2,c3,c4,c5⟩
theorem Zff.at' {v:Value} (h:Zff base w v l bs):∃ lo cap,v=.slice lo bs.length cap∧Jd w lo bs∧bs.length<=cap:=by
 have hl:=h.len
 rcases h.row.2 with ⟨rfl,h0⟩ | ⟨g,cap,cur,rfl,hb,hg,h1,h2,h3,h4⟩
 ·have:bs=[]:=List.eq_nil_of_length_eq_zero (by omega)
  subst this;exact ⟨none,0,rfl,.inl rfl,Nat.le_refl _⟩
 ·refine ⟨some ⟨g,0,none⟩,cap,by rw [hl],.inr ⟨g,0,rfl,Zi hg,λ i hi=>?_⟩,by omega⟩
  have hi' : i<l.length:=by omega
  obtain ⟨e1,e2,e3⟩:=h.each i hi' hi;obtain ⟨x1,x2⟩:=Zql hi';obtain ⟨ao,c,y1,y2,y3,y4⟩:=e2.ints;rw [Nat.zero_add];refine ⟨(h.row.cellAt (i * 2) (by omega)).trans (by rw [x1,e1]),ao,c,(h.row.cellAt (i * 2+1) (by omega)).trans (by rw [x2,y1]),y2,y3,λ e=>?_⟩;subst e
  rcases e2.2 with ⟨z1,z2⟩ | ⟨g', c', cur', z1,_⟩
  ·rw [y1] at z1;simp only [Value.slice.injEq,true_and] at z1;exact z1
  ·rw [y1] at z1;simp at z1
def Zak (L:List Sym):List Bd->Tb->Except Int Tb
 | [],σ=>.ok σ
 | b :: r,σ=>if b.1<1∨99<b.1∨σ b.1.toNat≠[] then .error 50 else if Zd L b.2≠0 then .error (Zd L b.2) else Zak L r (Zjt σ b.1.toNat b.2)
theorem Zk9 {b:Bd} {σ:Tb} (h:b.1<1∨99<b.1∨σ b.1.toNat≠[]):Zak L (b :: r) σ=.error 50:=by rw [Zak,if_pos h]
theorem Zq6 {b:Bd} {σ:Tb} (h:¬ (b.1<1∨99<b.1∨σ b.1.toNat≠[])) (h2:Zd L b.2≠0):Zak L (b :: r) σ=.error (Zd L b.2):=by rw [Zak,if_neg h,if_pos h2]
theorem Zw7 {b:Bd} {σ:Tb} (h:¬ (b.1<1∨99<b.1∨σ b.1.toNat≠[])) (h2:Zd L b.2=0):Zak L (b :: r) σ=Zak L r (Zjt σ b.1.toNat b.2):=by rw [Zak,if_neg h,if_neg (by rw [h2];simp)]
def Znd (cs:Array Value):Prop:=cs.all (·.oneCell')=true
structure TabW (Z:Array Value) (w wr:World) (L:List Sym) (bs:List Bd) (i:Nat) (σ:Tb):Prop where
 tab:Ky w.heap.size wr (w.heap.size+1) σ
 res:wr.heap[w.heap.size]? = some (.cells Z 279 (0,0))
 eq:Zak L bs noT=Zak L (bs.drop i) σ
 bnd:Bnd σ
 kept:Za w wr
theorem Zo4 (hZ:Z=Array.replicate 100 (.slice none 0 0)) (w:World) (L:List Sym) (bs:List Bd):TabW Z w ((w.alloc (.cells Z 279)).alloc (.cells Z 279)) L bs 0 noT:=by
 have k1:Za w (w.alloc (.cells Z 279)):=(Zc.refl _ w).alloc _;have k2:Za (w.alloc (.cells Z 279)) ((w.alloc (.cells Z 279)).alloc (.cells Z 279)):=Zal9;refine ⟨⟨Z,?_,hZ ▸ Zbx _ _⟩,k2.at0 (heap_alloc_new w _),rfl,λ v=>by simp [noT],k1.trans' k2⟩;have:=heap_alloc_new (w.alloc (.cells Z 279)) (.cells Z 279)
 rwa [World.size_alloc] at this
theorem Zkx (h:Sg n w b L) {lcap:Nat} (hl:Jd w lo bs) (hm:bs.length<=maxLen) (hbm:∀ x∈bs,x.2.length<=maxLen) :
  Calls prog 159 #[.pointer (some ⟨b,0,none⟩),.slice lo bs.length lcap] w λ e w' => ∃ cs c,e=.returned (.tuple #[.agg cs,.int .i64 c])∧cs.size=100∧Znd cs∧Za w w' ∧ (∀ σ,Zak L bs noT=.ok σ->c=0∧Zf5 w.heap.size w' cs σ∧Bnd σ)∧(∀ x,Zak L bs noT=.error x->c=x):=by
 unfold maxLen at hm;obtain ⟨Z,hZ⟩:∃ Z:Array Value,Z=Array.replicate 100 (.slice none 0 0):=⟨_,rfl⟩;have hz:Tryz.zeroCells279=Z:=Kh.trans hZ.symm;have hZs:Z.size=100:=by rw [hZ];simp
 have hZ1:Z.all (·.oneCell')=true:=by rw [hZ];exact (Zbx 0 w).one
 have W0:=Zo4 hZ w L bs;have HST:Hid (∀ w' : World,w'.heap[w.heap.size]? = some (.cells Z 279 (0,0))->(storeCells ⟨w.heap.size,0,none⟩ Z.toList 0).run prog w' = .ok () (w'.setRow w.heap.size Z)):=λ w' hr=>Ys hr hZs hZs hZ1;have HZ1:Hid (Z.all (·.oneCell')=true):=hZ1;have HBM:Hid (∀ x∈bs,x.2.length<=maxLen):=hbm;have hnil:=Zrg;clear hZ hZ1 hbm
 -- the end with an error
 have BAD:Hid (∀ (w' : World) (c x:Int),w'.heap[w.heap.size]? = some (.cells Z 279 (0,0))->Za w w' -> Zak L bs noT=.error x->c=x->∀ tmps:Array Value,tmps.getD 4 undef=.pointer (some ⟨w.heap.size,0,none⟩)->tmps.getD 5 undef=.int .i64 c->bodyPost prog Tryz.f159 (λ e w' => ∃ cs c,e=.returned (.tuple #[.agg cs,.int .i64 c])∧cs.size=100∧Znd cs∧Za w w' ∧ (∀ σ,Zak L bs noT=.ok σ->c=0∧Zf5 w.heap.size w' cs σ∧Bnd σ)∧(∀ x,Zak L bs noT=.error x->c=x)) Exit.ret { tmps:=tmps,defers:=[] } (w'.setRow w.heap.size Z)):=λ w' c x hr hk hx hc tmps h4 h5=>by
  have k1:Za w (w'.setRow w.heap.size Z):=hk.setRow (λ e=>by omega) Z;refine bodyPost_ret (v:=.tuple #[.agg Z,.int .i64 c]) ?_ rfl ⟨Z,c,rfl,hZs,HZ1.out,k1,λ σ e=>(by rw [hx] at e;cases e),λ y e=>(by rw [hx] at e;cases e;exact hc)⟩;have h4' : tmps[4]?.getD undef=.pointer (some ⟨w.heap.size,0,none⟩):=by simpa using h4
  have h5' : tmps[5]?.getD undef=.int .i64 c:=by simpa using h5
  rw [results_cell_tmp rfl];simp [asAddr,Result.andThen,h4', h5', Vj (Zbm hr) hZs]
 go_enter func159,ntmps159
 go_wp2
 go_loopw [12] (λ iv wr=>∃ (i:Nat) (σ:Tb),i<=bs.length∧iv=.int .i64 (i:Int)∧TabW Z w wr L bs i σ) (λ iv _=>bs.length-(intOf iv).toNat)
 case atStart=>exact ⟨0,noT,Nat.zero_le _,rfl,W0⟩
 case round=>
  clear W0;obtain ⟨i,σ,hi,rfl,hW⟩:=hrel
  by_cases hlt:i<bs.length
  ·have hd:bs.drop i=bs[i] :: bs.drop (i+1):=List.drop_eq_getElem_cons hlt
   have heq:=hW.eq;rw [hd] at heq;obtain ⟨lb,off,ao,cap,rfl,hlb,c1,c2,c3w,c4,c5⟩:=hl.get hlt;replace c1:=(hW.kept.cell (p:=⟨lb,off+i * 2,none⟩) hlb (λ f=>f)).trans c1;replace c2:=(hW.kept.cell (p:=⟨lb,off+i * 2+1,none⟩) hlb (λ f=>f)).trans c2;have c3:=c3w.same hW.kept;have hbi:=HBM.out _ (List.getElem_mem hlt);obtain ⟨x,hx⟩:∃ x,x=bs[i].1:=⟨_,rfl⟩;obtain ⟨u,hu⟩:∃ u,u=bs[i].2:=⟨_,rfl⟩;have hp:bs[i]=(x,u):=by rw [hx,hu]
   rw [hp] at heq;rw [<- hx] at c1;rw [<- hu] at c2 c3 c3w c4 c5 hbi;have i1:(0:Int)<=(i:Int):=by omega
   have i2:(i:Int)<(bs.length:Int):=by omega
   have k3:Za wr (wr.alloc (.cells #[.int .i64 x,.slice ao u.length cap] 321)):=(Zc.refl _ wr).alloc _;have K3:=hW.kept.trans' k3;have res3:=k3.at0 hW.res;have hst:=HST.out _ res3;clear hx hu hp hd
   by_cases h1:x<1
   ·have HX:Hid (Zak L bs noT=.error 50):=heq.trans (Zk9 (.inl h1))
    clear heq hW;go_wp2;refine BAD.out _ 50 50 res3 K3 HX.out rfl _ ?_ ?_ <;> rfl
   ·by_cases h2:99<x
    ·have HX:Hid (Zak L bs noT=.error 50):=heq.trans (Zk9 (.inr (.inl h2)))
     clear heq hW;go_wp2;refine BAD.out _ 50 50 res3 K3 HX.out rfl _ ?_ ?_ <;> rfl
    ·obtain ⟨v,rfl⟩:∃ v:Nat,x=(v:Int):=⟨x.toNat,by omega⟩
     have j1:(0:Int)<=(v:Int):=by omega
     have j2:(v:Int)<100:=by omega
     obtain ⟨so,scap,g1,g2,g3,g4,g5⟩:=(hW.tab.same k3).cell (v:=v) (by omega)
     by_cases h3:σ v=[]
     ·obtain ⟨rfl,rfl⟩:=g5 h3
      rw [h3] at g1;have hno:¬ ((v:Int)<1∨99<(v:Int)∨σ (v:Int).toNat≠[]):=by simp only [Int.toNat_natCast,h3];simp;omega
      have cc:=Xn (cap:=cap) (h.same K3) (c3.same k3) hbi
      by_cases h4:Zd L u=0
      ·obtain ⟨u1,_,u2⟩:=Ze.1 h4
       have hpos:=Z2 u2;obtain ⟨ub,uoff,rfl,hub, -⟩:=c3w.get hpos
       have Hn:Hid (∀ w' : World,Za (wr.alloc (.cells #[.int .i64 (v:Int),.slice (some ⟨ub,uoff,none⟩) u.length cap] 321)) w' -> (w'.cell? ⟨wr.heap.size,0,none⟩=some (.int .i64 (v:Int))∧w'.cell? ⟨wr.heap.size,1,none⟩=some (.slice (some ⟨ub,uoff,none⟩) u.length cap)∧w'.cell? ⟨w.heap.size+1,v,none⟩=some (.slice none 0 0)∧w'.frozen? ⟨w.heap.size+1,v,none⟩=false)∧TabW Z w (w'.setCell ⟨w.heap.size+1,v,none⟩ (.slice (some ⟨ub,uoff,none⟩) u.length cap)) L bs (i+1) (Zjt σ v u)):=λ w' hk' => by
        have kk:=k3.trans' hk';have KK:=hW.kept.trans' kk;have hb0:=hk'.at0 (heap_alloc_new wr (.cells #[.int .i64 (v:Int),.slice (some ⟨ub,uoff,none⟩) u.length cap] 321));have tt:=hW.tab.same kk;obtain ⟨so', sc', y1,y2,_,_,y5⟩:=tt.cell (v:=v) (by omega);obtain ⟨rfl,rfl⟩:=y5 h3;rw [h3] at y1;refine ⟨⟨Zb hb0 0,Zb hb0 1,y1,y2⟩,?_⟩;have ks:Zc (λ k=>k=w.heap.size+1) w' (w'.setCell ⟨w.heap.size+1,v,none⟩ (.slice (some ⟨ub,uoff,none⟩) u.length cap)):=Zc.setCell (p:=⟨w.heap.size+1,v,none⟩) (Zc.refl (λ k=>k=w.heap.size+1) w') (λ _=>rfl) _;refine ⟨tt.put (by omega) (by omega) (c3.same kk) c4 (λ e=>by rw [e] at hpos;simp at hpos) hub,ks.at (kk.at0 hW.res) (by omega),?_,Zr4 hW.bnd u1,KK.trans ks (λ k hk e=>by omega)⟩;rw [heq,Zw7 hno h4];rfl
       rw [h4] at cc;clear hW heq hst res3 c3 c3w c4 c5 h3 g5 g3 g4 hno u2 u1 h4
       go_wp2_with (go_at_call 104;refine cc.mono ?_;rintro e w5 ⟨rfl,hk5⟩;obtain ⟨⟨e1,e2,e3,e4⟩,hW5⟩:=Hn.out w5 hk5)
       exact ⟨⟨i+1,_,by omega,by go_num,hW5⟩,by simp [intOf];omega⟩
      ·have HX:Hid (Zak L bs noT=.error (Zd L u)):=heq.trans (Zq6 hno h4)
       have h4' : (Zd L u == 0)=false:=by simpa using h4
       clear hW heq hst c3 c3w c4 c5 h3 g5 g3 g4 hno h4
       go_wp2_with (go_at_call 104;refine cc.mono ?_;rintro e w5 ⟨rfl,hk5⟩;have res5:=hk5.at0 res3;have hst5:=HST.out _ res5)
       refine BAD.out _ (Zd L u) (Zd L u) res5 (K3.trans' hk5) HX.out rfl _ ?_ ?_ <;> rfl
     ·obtain ⟨sb,soff,rfl, -, -⟩:=g3.get (i:=0) (List.length_pos_iff.2 h3)
      have HX:Hid (Zak L bs noT=.error 50):=heq.trans (Zk9 (.inr (.inr (by simpa using h3))));clear heq hW g5 g3 g4;go_wp2;refine BAD.out _ 50 50 res3 K3 HX.out rfl _ ?_ ?_ <;> rfl
  ·have hn:bs.drop i=[]:=List.drop_eq_nil_of_le (by omega)
   have H:Hid (Zak L bs noT=.ok σ):=by
    have:=hW.eq;rw [hn] at this;exact this.trans rfl
   have hb:=hW.bnd;have hr:=hW.res;have hk:=hW.kept;obtain ⟨cs,t1,t2⟩:=hW.tab;have hcs:=t2.1;have hst:=Ys hr hZs hcs t2.one;have T2:Hid (Zf5 w.heap.size wr cs σ):=t2;clear hW hn t2;go_wp2;refine wp_load_row 279 (.tmp 6) rfl _ rfl _ cs (0,0) _ t1 underlying279 rfl (by rw [hcs];exact Ve) ?_;go_wp2;have k1:Za w (wr.setRow w.heap.size cs):=hk.setRow (λ e=>by omega) cs;refine bodyPost_ret (v:=.tuple #[.agg cs,.int .i64 0]) ?_ rfl ⟨cs,0,rfl,hcs,T2.out.one,k1,λ σ' e=>?_,λ x e=>?_⟩
   ·rw [results_cell_tmp rfl]
    simp [asAddr,Result.andThen,Vj (Zbm hr) hcs]
   ·rw [H.out] at e
    cases e
    exact ⟨rfl,T2.out.kept ((Zc.refl (λ i=>i=w.heap.size) wr).setRow (λ _=>rfl) cs) (λ k hk e=>by omega),hb⟩
   ·rw [H.out] at e;cases e
end
end Go.Proofs.YtmjgnfkbnofjoaaGreatDoor
