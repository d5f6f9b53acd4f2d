import Derived.Test.YtmjgnfkbnofjoaaGreatDoorSW04
import Derived.Laws.AppendOwnNone
import Derived.Deep.WholeRow
namespace Go.Proofs.YtmjgnfkbnofjoaaGreatDoor
set_option maxRecDepth 100000
set_option linter.unusedVariables false
open Go.RowKit
attribute [local go_sem ↓] Go.wp_at_zero Go.wp_at_succ
theorem ints_new (w:World) (xs:List Int) (T:TypeId) {o:Obj} (ho:o=.cells (iv xs).toArray T (0,0)):IntsAt (w.alloc o) (some ⟨w.heap.size,0,none⟩) xs:=by
 subst ho
 refine .inr ⟨_,_,rfl,by simp,fun i hi=>?_⟩
 rw [Nat.zero_add,cellAt (heap_alloc_new w _)]
 simpa using iv_get hi
theorem Row.ints {base:Nat} {w:World} {v:Value} {xs:List Int} (h:Row base w v xs):∃ ao cap,v=.slice ao xs.length cap∧IntsAt w ao xs∧xs.length≤cap∧(∀ a,ao=some a→base≤a.block∧a.block<w.heap.size):=by
 rcases h.2 with ⟨rfl,h0⟩ | ⟨g,cap,cur,rfl,hb,hg,h1,h2,h3,h4⟩
 ·have:xs=[]:=List.eq_nil_of_length_eq_zero h0
  subst this
  exact ⟨none,0,rfl,.inl rfl,Nat.le_refl _,fun a e=>by cases e⟩
 ·refine ⟨_,cap,rfl,.inr ⟨g,0,rfl,lt_of_at hg,fun i hi=>?_⟩,h1,fun a e=>by cases e;exact ⟨hb,lt_of_at hg⟩⟩
  rw [Nat.zero_add,h.cellAt i (by omega)]
  exact iv_get hi
abbrev zS:Sym:=⟨⟨#[122]⟩,0,false⟩
abbrev L3:List Sym:=[zS,aS,aAdd]
set_option maxHeartbeats 1000000 in
theorem rArity_any {n:Nat} {w:World} {rv:Value} {L:List Sym} (h:Rl n w rv L) (x:Int):Calls Tryz.prog 144 #[rv,.int .i64 x] w fun e w' => e=.returned (.int .i64 (if x<0∨(L.length:Int)≤x then -1 else (arN L x:Int)))∧w' = w:=by
 obtain ⟨hr,_,ha,hlen⟩:=h
 obtain ⟨ao,cap,rfl⟩:=row_shape hr
 by_cases h0:x<0
 ·go_enter Tryz.func144,Tryz.ntmps144
  go_wp2
  go_ret
  exact ⟨rfl,rfl⟩
 ·by_cases h1:(L.length:Int)≤x
  ·go_enter Tryz.func144,Tryz.ntmps144
   go_wp2
   go_ret
   exact ⟨rfl,rfl⟩
  ·obtain ⟨i,rfl⟩:∃ i:Nat,x=(i:Int):=⟨x.toNat,by omega⟩
   have hi:i<L.length:=by omega
   have H:Hid (((arN L (i:Int):Nat):Int)=L[i].ar):=ar_of ha hi
   obtain ⟨g,rfl,hg,x0,x1,x2⟩:=row_sym hr hi
   have i1:(0:Int)≤(i:Int):=by omega
   have i2:(i:Int)<(L.length:Int):=by omega
   go_enter Tryz.func144,Tryz.ntmps144
   go_wp2
   go_ret
   exact ⟨by rw [H.out];rfl,rfl⟩
set_option maxHeartbeats 1000000 in
theorem rarity_any {n:Nat} {w:World} {rv:Value} {L:List Sym} (h:Rl n w rv L) (x:Int):Calls Tryz.prog 222 #[rv,.int .i64 x] w fun e w' => e=.returned (.int .i64 (arN L x:Int))∧w' = w:=by
 have c:=rArity_any h x
 by_cases hx:x<0∨(L.length:Int)≤x
 ·rw [if_pos hx] at c
  have H:Hid (arN L x=0):=ar_no hx
  go_enter Tryz.func222,Tryz.ntmps222
  go_wp2_with (first | (go_at_call 144;refine c.mono ?_;rintro e w' ⟨rfl,rfl⟩))
  go_ret
  exact ⟨by rw [H.out];rfl,rfl⟩
 ·rw [if_neg hx] at c
  go_enter Tryz.func222,Tryz.ntmps222
  go_wp2_with (first | (go_at_call 144;refine c.mono ?_;rintro e w' ⟨rfl,rfl⟩))
  go_ret
  exact ⟨rfl,rfl⟩
set_option maxHeartbeats 2000000 in
theorem rend_any {n:Nat} {w:World} {rv:Value} {L:List Sym} (h:Rl n w rv L) {ao:Option Addr} {cap:Nat} {t:List Int} (ht:IntsAt w ao t) (hm:t.length≤2000) (p0:Nat) (hp0:p0≤t.length) :
  Calls Tryz.prog 195 #[rv,.slice ao t.length cap,.int .i64 (p0:Int)] w fun e w' => e=.returned (.int .i64 (endN L t p0))∧w' = w:=by
 have ha:=h.2.2.1
 go_enter Tryz.func195,Tryz.ntmps195
 go_wp2
 go_loop [7,8] (fun la at' => ∃ p k:Nat,p0≤p∧p≤t.length∧at' = .int .i64 (p:Int)∧la=.int .i64 (k:Int)∧k≤1+6 * (p-p0)∧Hid (endO L t p0=(scan L k (t.drop p)).map (p + ·))) (fun _ at' => t.length-(intOf at').toNat)
 case atStart=>exact ⟨p0,1,Nat.le_refl _,hp0,rfl,rfl,by omega,rfl⟩
 case round=>
  obtain ⟨p,k,h1,h2,rfl,rfl,h3,h4⟩:=hrel
  by_cases hlt:p<t.length
  ·cases k with
   | zero=>
    have H6:Hid (endN L t p0=p):=by
     have:=h4.out
     simp [scan_zero] at this
     show _=_
     simp [endN,this]
    go_wp2
    go_ret
    exact ⟨by rw [H6.out];rfl,rfl⟩
   | succ k=>
    obtain ⟨tb,off,rfl,htb,hc⟩:=ht.get hlt
    have c:=rarity_any h t[p]
    have hle:=arN_le ha t[p]
    have H5:Hid (endO L t p0=(scan L (k+arN L t[p]) (t.drop (p+1))).map (p+1 + ·)):=endO_round h4.out hlt
    have i1:(0:Int)≤(p:Int):=by omega
    have i2:(p:Int)<(t.length:Int):=by omega
    clear h4
    generalize arN L t[p]=a at *
    go_wp2_with (first | (go_at_call 222;refine c.mono ?_;rintro e w' ⟨rfl,rfl⟩))
    refine ⟨⟨p+1,k+a,by omega,by omega,by go_num,by first | (congr 1;omega) | congr 1,by omega,H5⟩,by simp [intOf];omega⟩
  ·have H6:Hid (endN L t p0=p):=by
    have h4:=h4.out
    rw [List.drop_eq_nil_of_le (by omega)] at h4
    show _=_
    cases k with
    | zero=>simp [scan] at h4;simp [endN,h4]
    | succ k=>simp [scan] at h4;simp [endN,h4];omega
   go_wp2
   go_ret
   exact ⟨by rw [H6.out];rfl,rfl⟩
theorem need_take {L:List Sym} {t:List Int} {p k:Nat} (h:need L 1 (t.take p)=some k) (hp:p<t.length):(k=0→¬ need L 1 t=some 0)∧(∀ j,k=j+1→need L 1 (t.take (p+1))=some (j+arN L t[p])):=by
 have e:t=t.take p++(t[p] :: t.drop (p+1)):=by rw [← List.drop_eq_getElem_cons hp,List.take_append_drop]
 constructor
 ·rintro rfl hn
  rw [e,need_append,h,Option.bind_some,need] at hn
  cases hn
 ·rintro j rfl
  rw [List.take_add_one,need_append,h,List.getElem?_eq_getElem hp]
  simp [need]
theorem checkE_shape {L:List Sym} {t:List Int} (h:¬ 2000<t.length) (hb:badE L t=0):checkE L t=if need L 1 t=some 0 then 0 else 23:=by
 simp [checkE,h,hb]
set_option maxHeartbeats 4000000 in
theorem rcheck_any {n:Nat} {w:World} {rv:Value} {L:List Sym} (h:Rl n w rv L) {ao:Option Addr} {cap:Nat} {t:List Int} (ht:IntsAt w ao t) (hm:t.length≤maxLen) :
  Calls Tryz.prog 189 #[rv,.slice ao t.length cap] w fun e w' => e=.returned (.int .i64 (checkE L t))∧w' = w:=by
 unfold maxLen at hm
 have ha:=h.2.2.1
 have hL64:=h.2.2.2
 obtain ⟨ro,rcap,rfl⟩:=row_shape h.1
 by_cases hl:2000<t.length
 ·have H:Hid (checkE L t=20):=checkE_long hl
  go_enter Tryz.func189,Tryz.ntmps189
  go_wp2
  go_ret
  exact ⟨ret_int H.out.symm,rfl⟩
 ·have hl' : t.length≤2000:=by omega
  go_enter Tryz.func189,Tryz.ntmps189
  go_wp2
  go_loop [5] (fun i=>∃ p:Nat,p≤t.length∧i=.int .i64 (p:Int)∧Hid (badE L (t.take p)=0)) (fun i=>t.length-(intOf i).toNat)
  case atStart=>exact ⟨0,Nat.zero_le _,rfl,by simp [badE,Hid]⟩
  case round=>
   obtain ⟨p,h1,rfl,h2⟩:=hrel
   by_cases hlt:p<t.length
   ·obtain ⟨tb,off,rfl,htb,hc⟩:=ht.get hlt
    have i1:(0:Int)≤(p:Int):=by omega
    have i2:(p:Int)<(t.length:Int):=by omega
    obtain ⟨s1,s2⟩:=badE_step hlt h2.out
    by_cases q1:(L.length:Int)≤t[p]
    ·have e0:numE L t[p]=21:=by simp [numE,q1]
     have H:Hid (checkE L t=21):=by
      show _=_
      have:=s1 (by omega)
      rw [checkE_bad hl (by omega)];omega
     clear s1 s2 h2 e0
     go_wp2
     go_ret
     exact ⟨ret_int H.out.symm,rfl⟩
    ·by_cases q2:t[p] < -99
     ·have e0:numE L t[p]=22:=by simp [numE,q1,q2]
      have H:Hid (checkE L t=22):=by
       show _=_
       have:=s1 (by omega)
       rw [checkE_bad hl (by omega)];omega
      clear s1 s2 h2 e0
      go_wp2
      go_ret
      exact ⟨ret_int H.out.symm,rfl⟩
     ·have e0:numE L t[p]=0:=by simp [numE,q1,q2]
      have S2:Hid (badE L (t.take (p+1))=0):=s2 e0
      clear s1 s2 h2 e0
      go_wp2
      exact ⟨⟨p+1,by omega,by go_num,S2⟩,by simp [intOf];omega⟩
   ·obtain rfl:p=t.length:=by omega
    have hb:=h2.out
    rw [List.take_length] at hb
    have HC:Hid (checkE L t=if need L 1 t=some 0 then 0 else 23):=checkE_shape hl hb
    clear h2 hb
    go_wp2
    go_loop [6,7] (fun la i=>∃ p k:Nat,p≤t.length∧i=.int .i64 (p:Int)∧la=.int .i64 (k:Int)∧k≤1+6 * p∧Hid (need L 1 (t.take p)=some k)) (fun _ i=>t.length-(intOf i).toNat)
    case atStart=>exact ⟨0,1,Nat.zero_le _,rfl,rfl,by omega,by simp [need,Hid]⟩
    case round=>
     obtain ⟨p,k,g1,rfl,rfl,g2,g3⟩:=hrel
     by_cases hlt2:p<t.length
     ·obtain ⟨tb,off,rfl,htb,hc⟩:=ht.get hlt2
      have i1:(0:Int)≤(p:Int):=by omega
      have i2:(p:Int)<(t.length:Int):=by omega
      obtain ⟨s1,s2⟩:=need_take g3.out hlt2
      cases k with
      | zero=>
       have H:Hid (checkE L t=23):=by show _=_;rw [HC.out,if_neg (s1 rfl)]
       clear s1 s2 g3 HC
       go_wp2
       go_ret
       exact ⟨ret_int H.out.symm,rfl⟩
      | succ k=>
       have S2:Hid (need L 1 (t.take (p+1))=some (k+arN L t[p])):=s2 k rfl
       have c:=rarity_any h t[p]
       have hle:=arN_le ha t[p]
       clear s1 s2 g3 HC
       generalize arN L t[p]=a at *
       go_wp2_with (first | (go_at_call 222;refine c.mono ?_;rintro e w' ⟨rfl,rfl⟩))
       refine ⟨⟨p+1,k+a,by omega,by go_num,by first | (congr 1;omega) | congr 1,by omega,S2⟩,by simp [intOf];omega⟩
     ·obtain rfl:p=t.length:=by omega
      have g4:=g3.out
      rw [List.take_length] at g4
      by_cases hk0:k=0
      ·subst hk0
       have H:Hid (checkE L t=0):=by show _=_;rw [HC.out,if_pos g4]
       clear g3 g4 HC
       go_wp2
       go_ret
       exact ⟨ret_int H.out.symm,rfl⟩
      ·have H:Hid (checkE L t=23):=by show _=_;rw [HC.out,if_neg (by rw [g4];simp;exact hk0)]
       clear g3 g4 HC
       go_wp2
       go_ret
       exact ⟨ret_int H.out.symm,rfl⟩
theorem wpList_push {w0:World} {ops:Array Oper} {rest:List Oper} {o:Oper} {a:Act} {Q:Exit→Act→World→Prop} (hgd:o.guard=none) (s x:Operand) (t:TypeId)
  (ho:o.op=.call { callee:=.builtin .append,args:=#[s,x],argTypes:=#[t,t] }) (ht:Tryz.prog.underlying t=some (.slice 3))
  (base:Nat) (xs:List Int) (v:Value) (hs:a.eval s=v) (hr:Row base w0 v xs) (y:Int) (hx:a.eval x=.slice (some ⟨w0.heap.size,0,none⟩) 1 1) (hb:base≤w0.heap.size) (hsz:(xs.length+1) * 8≤140737488355328)
  (h:∀ g cap w', Row base w' (.slice (some ⟨g,0,none⟩) (xs.length+1) cap) (xs ++ [y])→Kept (fun k=>v.ownBlock=some k) w0 w' → (v.ownBlock=some g∨w0.heap.size≤g)→wpList Tryz.prog ops Q rest (a.put o.dst (.slice (some ⟨g,0,none⟩) (xs.length+1) cap)) w') :
  wpList Tryz.prog ops Q (o :: rest) a (w0.alloc (.cells #[.int .i64 y] 3)):=by
 obtain ⟨i,hi,hz0,hz1,hz2⟩:=info_parts info_intT
 refine wpList_append_lies _ hgd s x t ho base 3 i (.int .i64 0) 1 8 ht hi hz0 hz1 hz2 rfl (by decide) v xs.length (iv xs) hs (hr.alloc _) ⟨w0.heap.size,0,none⟩ 1 1 [.int .i64 y] hx rfl (cell_one_new _ _ _) (by simp [Value.oneCell']) (by omega) (by unfold maxLen;omega) hsz (by simp;omega) (w0.heap.size+1) (by simp) ?_
 intro g cap w' hown hgrow hat hlt
 refine h g cap w' ?_ ?_ (hat.imp id (fun e=>by omega))
 ·unfold Row;rw [iv_append,List.length_append];exact hown
 ·exact Kept.grown (Kept.alloc (Kept.refl _ w0) _) hgrow (fun _ e _=>e)
theorem Same0.onto {w w0 w' : World} {v:Value} {xs:List Int} (h:Same0 w w0) (hr:Row w.heap.size w0 v xs) (hk:Kept (fun k=>v.ownBlock=some k) w0 w'):Same0 w w' :=
 h.trans hk (fun i hi e=>by have:=(hr.lt i e).1;omega)
set_option maxHeartbeats 4000000 in
theorem rargs_any {n:Nat} {w:World} {rv:Value} {L:List Sym} (h:Rl n w rv L) {ao:Option Addr} {cap:Nat} {t:List Int} (ht:IntsAt w ao t) (hm:t.length≤2000) (hT:IsT L t) (p:Nat) (hp:p<t.length) :
  Calls Tryz.prog 194 #[rv,.slice ao t.length cap,.int .i64 (p:Int)] w fun e w' => ∃ v,e=.returned v∧Row w.heap.size w' v (ofN (argsN L t p))∧Same0 w w' := by
 have H:Hid (argsN L t p=starts L t (arN L t[p]) (p+1)):=argsN_eq hp
 have hf:=(Forest.one hT hp).kids.2
 have har:=arN_le h.2.2.1 t[p]
 have c1:∀ w1,Same0 w w1→Calls Tryz.prog 222 #[rv,.int .i64 t[p]] w1 fun e w' => e=.returned (.int .i64 (arN L t[p]:Int))∧w' = w1:=fun w1 hk=>rarity_any (h.same hk) t[p]
 have c2:∀ w1 q,Same0 w w1→q<t.length→Calls Tryz.prog 195 #[rv,.slice ao t.length cap,.int .i64 (q:Int)] w1 fun e w' => e=.returned (.int .i64 (endN L t q:Int))∧w' = w1:=fun w1 q hk hq=>rend_any (cap:=cap) (h.same hk) (ht.same hk) hm q (by omega)
 have i1:(0:Int)≤(p:Int):=by omega
 have i2:(p:Int)<(t.length:Int):=by omega
 have i0:¬ (p:Int)<0:=by omega
 have i0' : decide ((p:Int)<0)=false:=by simp
 obtain ⟨ro,rcap,rfl⟩:=row_shape h.1
 obtain ⟨tb,off,rfl,htb,hc⟩:=ht.get hp
 have hc' : ∀ w1,Same0 w w1→w1.cell? ⟨tb,off+p,none⟩=some (.int .i64 t[p]):=fun w1 hk=>(hk.cell (p:=⟨tb,off+p,none⟩) htb (fun f=>f)).trans hc
 generalize hA:arN L t[p]=A at *
 have hA:Hid (arN L t[p]=A):=hA
 go_enter Tryz.func194,Tryz.ntmps194
 go_wp2
 go_loopw [7,8,9] (fun out nx i wr=>∃ k:Nat,k≤A∧i=.int .i64 (k:Int)∧nx=.int .i64 (past L t k (p+1):Int)∧Row w.heap.size wr out (ofN (starts L t k (p+1)))∧Same0 w wr) (fun _ _ i _=>A-(intOf i).toNat)
 case atStart=>exact ⟨0,Nat.zero_le _,rfl,rfl,World.ownsRow_nil _ _ _ _,Kept.refl _ _⟩
 case round=>
  obtain ⟨k,hkA,rfl,rfl,hr,hs⟩:=hrel
  have d0:=hc' _ hs
  have cA:=c1 _ hs
  by_cases hlt:k<A
  ·have hfk:=hf.drop (i:=k) (by omega)
   rw [show A-k=(A-k-1)+1 by omega] at hfk
   have hq:past L t k (p+1)<t.length:=by have:=hfk.pos;have:=hfk.le;omega
   have e1:Hid (past L t (k+1) (p+1)=endN L t (past L t k (p+1))):=past_succ L t k (p+1)
   have e2:Hid (ofN (starts L t (k+1) (p+1))=ofN (starts L t k (p+1)) ++ [((past L t k (p+1):Nat):Int)]):=by show _=_;rw [starts_snoc];simp [ofN]
   have hlen:(ofN (starts L t k (p+1))).length=k:=by simp [ofN,starts_length]
   have hlt' : ¬ A≤k:=by omega
   clear hfk c1 hc'
   generalize past L t k (p+1)=P at *
   generalize ofN (starts L t k (p+1))=out at *
   subst hlen
   obtain ⟨oo,ocap,rfl⟩:=row_shape hr
   go_wp2_with (first | (go_at_call 222;refine cA.mono ?_;rintro e w' ⟨rfl,rfl⟩) | (at_builtin;refine wpList_push rfl _ _ 51 rfl Tryz.underlying51 w.heap.size out _ rfl hr (P:Int) rfl hs.size (by omega) ?_;intro g gcap w4 hr4 hk4 _;have hs4:=hs.onto hr hk4) | (go_at_call 195;refine (c2 _ _ hs4 hq).mono ?_;rintro e w' ⟨rfl,rfl⟩))
   rw [← e2.out] at hr4
   go_roundw
   case rel=>first | exact ⟨out.length+1,by omega,by go_num,by rw [e1.out],hr4,hs4⟩ | ((repeat apply Exists.intro);exact ⟨⟨out.length+1,by omega,by go_num,by rw [e1.out],hr4,hs4⟩,rfl⟩)
   case measure=>simp [intOf];omega
  ·obtain rfl:k=A:=by omega
   obtain ⟨oo,ocap,rfl⟩:=row_shape hr
   clear c1 c2 hc'
   go_wp2_with (first | (go_at_call 222;refine cA.mono ?_;rintro e w' ⟨rfl,rfl⟩))
   go_ret
   refine ⟨_,rfl,?_,hs⟩
   rw [H.out];exact hr
end Go.Proofs.YtmjgnfkbnofjoaaGreatDoor
namespace Go.Proofs.YtmjgnfkbnofjoaaGreatDoor
set_option linter.unusedVariables false
open Go.RowKit
attribute [local go_sem ↓] Go.wp_at_zero Go.wp_at_succ
set_option maxHeartbeats 1000000 in
theorem rIsV_any (x:Int) (w:World):Calls Tryz.prog 232 #[.int .i64 x] w fun e w' => e=.returned (.bool (isV x))∧w' = w:=by
 by_cases h1:x<0
 ·by_cases h2 : -99≤x
  ·have H:Hid (isV x=true):=by show _=_;simp [isV];omega
   go_enter Tryz.func232,Tryz.ntmps232
   go_wp2
   go_ret
   exact ⟨by rw [H.out];rfl,rfl⟩
  ·have H:Hid (isV x=false):=by show _=_;simp [isV];omega
   go_enter Tryz.func232,Tryz.ntmps232
   go_wp2
   go_ret
   exact ⟨by rw [H.out];rfl,rfl⟩
 ·have H:Hid (isV x=false):=by show _=_;simp [isV];omega
  go_enter Tryz.func232,Tryz.ntmps232
  go_wp2
  go_ret
  exact ⟨by rw [H.out];rfl,rfl⟩
def inB (l:List Int) (n:Int):Bool:=decide (n∈l)
set_option maxHeartbeats 1000000 in
theorem rIn_any {w:World} {ao:Option Addr} {cap:Nat} {l:List Int} (hl:IntsAt w ao l) (n:Int) (hm:l.length≤maxLen):Calls Tryz.prog 224 #[.slice ao l.length cap,.int .i64 n] w fun e w' => e=.returned (.bool (inB l n))∧w' = w:=by
 unfold maxLen at hm
 go_enter Tryz.func224,Tryz.ntmps224
 go_wp2
 go_loop [5] (fun i=>∃ k:Nat,k≤l.length∧i=.int .i64 (k:Int)∧Hid (¬ n∈l.take k)) (fun i=>l.length-(intOf i).toNat)
 case atStart=>exact ⟨0,Nat.zero_le _,rfl,by simp [Hid]⟩
 case round=>
  obtain ⟨k,hk,rfl,hn⟩:=hrel
  by_cases hlt:k<l.length
  ·obtain ⟨b,off,rfl,_,hc⟩:=hl.get hlt
   have i1:(0:Int)≤(k:Int):=by omega
   have i2:(k:Int)<(l.length:Int):=by omega
   by_cases he:l[k]=n
   ·have H:Hid (inB l n=true):=by show _=_;simp [inB];rw [← he];exact List.getElem_mem hlt
    have he' : (l[k] == n)=true:=by simpa using he
    go_wp2
    go_ret
    exact ⟨by rw [H.out];rfl,rfl⟩
   ·have he' : (l[k] == n)=false:=by simpa using he
    have hn' : Hid (¬ n∈l.take (k+1)):=by
     rw [List.take_add_one,List.getElem?_eq_getElem hlt]
     intro hh
     rcases List.mem_append.1 hh with hh | hh
     ·exact hn.out hh
     ·simp at hh;exact he hh.symm
    go_wp2
    exact ⟨⟨k+1,by omega,by go_num,hn'⟩,by simp [intOf];omega⟩
  ·have H:Hid (inB l n=false):=by
    have:=hn.out
    rw [List.take_of_length_le (by omega)] at this
    show _=_;simpa [inB] using this
   go_wp2
   go_ret
   exact ⟨by rw [H.out];rfl,rfl⟩
theorem vstep_yes {o:List Int} {x:Int} (h1:isV x=true) (h2:inB o (-x)=false):vstep o x=o ++ [-x]:=by
 rw [vstep,if_pos ⟨h1,by simpa [inB] using h2⟩]
theorem vstep_in {o:List Int} {x:Int} (h2:inB o (-x)=true):vstep o x=o:=by
 rw [vstep,if_neg (by simp [inB] at h2;simp [h2])]
theorem vstep_no {o:List Int} {x:Int} (h1:isV x=false):vstep o x=o:=by
 rw [vstep,if_neg (by simp [h1])]
set_option maxHeartbeats 2000000 in
theorem rvars_any {w:World} {ao:Option Addr} {cap:Nat} {t:List Int} (ht:IntsAt w ao t) (hm:t.length * 8≤140737488351232) :
  Calls Tryz.prog 223 #[.slice ao t.length cap] w fun e w' => ∃ v,e=.returned v∧Row w.heap.size w' v (varsL t)∧Same0 w w' := by
 go_enter Tryz.func223,Tryz.ntmps223
 go_wp2
 go_loopw [3,4] (fun ov i wr=>∃ k:Nat,k≤t.length∧i=.int .i64 (k:Int)∧Row w.heap.size wr ov (varsL (t.take k))∧Same0 w wr) (fun _ i _=>t.length-(intOf i).toNat)
 case atStart=>exact ⟨0,Nat.zero_le _,rfl,World.ownsRow_nil _ _ _ _,Kept.refl _ _⟩
 case round=>
  obtain ⟨k,hk,rfl,hr,hs⟩:=hrel
  obtain ⟨oo,ocap,rfl⟩:=row_shape hr
  by_cases hlt:k<t.length
  ·obtain ⟨b,off,rfl,_,hc⟩:=(ht.same hs).get hlt
   have i1:(0:Int)≤(k:Int):=by omega
   have i2:(k:Int)<(t.length:Int):=by omega
   have E:Hid (varsL (t.take (k+1))=vstep (varsL (t.take k)) t[k]):=vs_take hlt
   have hl:=vs_len [] (t.take k)
   have hl2:(varsL (t.take k)).length≤t.length:=by simp at hl;unfold varsL;omega
   have cV:=fun w' => rIsV_any t[k] w'
   clear hl
   generalize hO:varsL (t.take k)=O at *
   generalize hX:t[k]=x at *
   cases hv:isV x with
   | false=>
    have E1:Hid (varsL (t.take (k+1))=O):=by rw [E.out];exact vstep_no hv
    rw [← E1.out] at hr
    simp only [hv] at cV
    have hlE:=congrArg List.length E1.out
    rw [← hlE]
    clear hlE
    go_wp2_with (first | (go_at_call 232;refine (cV _).mono ?_;rintro e wr ⟨rfl,rfl⟩))
    go_roundw
    case rel=>first | exact ⟨k+1,by omega,by go_num,hr,hs⟩ | ((repeat apply Exists.intro);exact ⟨⟨k+1,by omega,by go_num,hr,hs⟩,rfl⟩)
    case measure=>simp [intOf];omega
   | true=>
    simp only [hv] at cV
    have hx:=isV_iff.1 hv
    obtain ⟨oo', ocap', hvv,io,_,_⟩:=hr.ints
    simp only [Value.slice.injEq,true_and] at hvv
    obtain ⟨rfl,rfl⟩:=hvv
    have cI:=rIn_any (cap:=ocap) io (-x) (by unfold maxLen;omega)
    cases hin:inB O (-x) with
    | true=>
     have E1:Hid (varsL (t.take (k+1))=O):=by rw [E.out];exact vstep_in hin
     rw [hin] at cI
     go_wp2_with (first | (go_at_call 232;refine (cV _).mono ?_;rintro e wr ⟨rfl,rfl⟩) | (go_at_call 224;refine cI.mono ?_;rintro e wr ⟨rfl,rfl⟩))
     rw [← E1.out] at hr
     have hrE:Row w.heap.size wr (.slice oo O.length ocap) (varsL (t.take (k+1))):=by rw [E1.out] at hr ⊢;exact hr
     exact ⟨⟨k+1,by omega,by go_num,hrE,hs⟩,by simp [intOf];omega⟩
    | false=>
     have E1:Hid (varsL (t.take (k+1))=O ++ [-x]):=by rw [E.out];exact vstep_yes hv hin
     rw [hin] at cI
     have hb8:(O.length+1) * 8≤140737488355328:=by omega
     have hss:=hs.size
     go_wp2_with (first | (go_at_call 232;refine (cV _).mono ?_;rintro e wr ⟨rfl,rfl⟩) | (go_at_call 224;refine cI.mono ?_;rintro e wr ⟨rfl,rfl⟩) | (at_builtin;refine wpList_push rfl _ _ 51 rfl Tryz.underlying51 w.heap.size O _ rfl hr (-x) rfl hss hb8 ?_;intro g gcap w4 hr4 hk4 _;have hs4:=hs.onto hr hk4))
     rw [← E1.out] at hr4
     go_roundw
     case rel=>first | exact ⟨k+1,by omega,by go_num,hr4,hs4⟩ | ((repeat apply Exists.intro);exact ⟨⟨k+1,by omega,by go_num,hr4,hs4⟩,rfl⟩)
     case measure=>simp [intOf];omega
  ·obtain rfl:k=t.length:=by omega
   rw [List.take_length] at hr
   go_wp2
   go_ret
   refine ⟨_,rfl,?_,hs⟩
   simpa using hr
theorem zeros_bool:Tryz.zeroCells275=Array.replicate 100 (.bool false):=by kernel_rfl
def MetAt (w:World) (A:Nat) (o:List Int):Prop:=∃ cs,w.heap[A]? = some (.cells cs 275 (0,0))∧cs.size=100∧∀ v:Nat,1≤v→v≤99→cs[v]? = some (.bool (inB o (v:Int)))
theorem met_new (w:World):MetAt (w.alloc (.cells Tryz.zeroCells275 275)) w.heap.size []:=by
 refine ⟨_,heap_alloc_new w _,by rw [zeros_bool];simp,fun v h1 h2=>?_⟩
 rw [zeros_bool,Array.getElem?_replicate,if_pos (by omega)]
 simp [inB]
theorem MetAt.kept {w w' : World} {A:Nat} {o:List Int} {S:Nat→Prop} (h:MetAt w A o) (hk:Kept S w w') (hn:¬ S A):MetAt w' A o:=by
 obtain ⟨cs,h1,h2⟩:=h
 exact ⟨cs,hk.at h1 hn,h2⟩
theorem MetAt.cell {w:World} {A:Nat} {o:List Int} (h:MetAt w A o) {v:Nat} (h1:1≤v) (h2:v≤99):w.cell? ⟨A,v,none⟩=some (.bool (inB o (v:Int)))∧w.frozen? ⟨A,v,none⟩=false:=by
 obtain ⟨cs,q1,q2,q3⟩:=h
 exact ⟨(cellAt q1 v).trans (q3 v h1 h2),frozenAt q1 v⟩
theorem MetAt.set {w:World} {A:Nat} {o:List Int} (h:MetAt w A o) {v:Nat} (h1:1≤v) (h2:v≤99):MetAt (w.setCell ⟨A,v,none⟩ (.bool true)) A (o ++ [(v:Int)]):=by
 obtain ⟨cs,q1,q2,q3⟩:=h
 refine ⟨_,setAt q1 v _,by simpa using q2,fun u g1 g2=>?_⟩
 rw [Array.getElem?_setIfInBounds]
 by_cases e:v=u
 ·subst e;rw [if_pos rfl,if_pos (by omega)];simp [inB]
 ·rw [if_neg e,q3 u g1 g2]
  congr 2
  simp [inB];omega
set_option maxHeartbeats 4000000 in
theorem tvars_any {w:World} {ao:Option Addr} {cap:Nat} {t:List Int} (ht:IntsAt w ao t) (hm:t.length * 8≤140737488351232) :
  Calls Tryz.prog 105 #[.slice ao t.length cap] w fun e w' => ∃ v,e=.returned v∧Row w.heap.size w' v (varsL t)∧Same0 w w' := by
 have M0:=met_new w
 have K0:Same0 w (w.alloc (.cells Tryz.zeroCells275 275)):=(Kept.refl _ w).alloc _
 go_enter Tryz.func105,Tryz.ntmps105
 go_wp2
 go_loopw [4,9] (fun ov i wr=>∃ k:Nat,k≤t.length∧i=.int .i64 (k:Int)∧Row w.heap.size wr ov (varsL (t.take k))∧MetAt wr w.heap.size (varsL (t.take k))∧ov.ownBlock≠some w.heap.size∧Same0 w wr) (fun _ i _=>t.length-(intOf i).toNat)
 case atStart=>exact ⟨0,Nat.zero_le _,rfl,World.ownsRow_nil _ _ _ _,M0,by simp [Value.ownBlock],K0⟩
 case round=>
  clear M0 K0
  obtain ⟨k,hk,rfl,hr,hM,hne,hs⟩:=hrel
  obtain ⟨oo,ocap,rfl⟩:=row_shape hr
  by_cases hlt:k<t.length
  ·obtain ⟨b,off,rfl,_,hc⟩:=(ht.same hs).get hlt
   have i1:(0:Int)≤(k:Int):=by omega
   have i2:(k:Int)<(t.length:Int):=by omega
   have E:Hid (varsL (t.take (k+1))=vstep (varsL (t.take k)) t[k]):=vs_take hlt
   have hl:=vs_len [] (t.take k)
   have hl2:(varsL (t.take k)).length≤t.length:=by simp at hl;unfold varsL;omega
   have cV:=fun w' => isVariable_any t[k] w'
   clear hl
   generalize hO:varsL (t.take k)=O at *
   generalize hX:t[k]=x at *
   cases hv:isV x with
   | false=>
    have E1:Hid (varsL (t.take (k+1))=O):=by rw [E.out];exact vstep_no hv
    simp only [hv] at cV
    go_wp2_with (first | (go_at_call 155;refine (cV _).mono ?_;rintro e wr ⟨rfl,rfl⟩))
    have hrE:Row w.heap.size wr (.slice oo O.length ocap) (varsL (t.take (k+1))):=by rw [E1.out];exact hr
    have hME:MetAt wr w.heap.size (varsL (t.take (k+1))):=by rw [E1.out];exact hM
    exact ⟨⟨k+1,by omega,by go_num,hrE,hME,hne,hs⟩,by simp [intOf];omega⟩
   | true=>
    simp only [hv] at cV
    have hx:=isV_iff.1 hv
    obtain ⟨v,rfl⟩:∃ v:Nat,x = -(v:Int):=⟨(-x).toNat,by omega⟩
    have hv1:1≤v:=by omega
    have hv2:v≤99:=by omega
    obtain ⟨q1,q2⟩:=hM.cell hv1 hv2
    have j1:(0:Int)≤(v:Int):=by omega
    have j2:(v:Int)<100:=by omega
    cases hin:inB O (v:Int) with
    | true=>
     have E1:Hid (varsL (t.take (k+1))=O):=by rw [E.out];exact vstep_in (by simpa using hin)
     rw [hin] at q1
     go_wp2_with (first | (go_at_call 155;refine (cV _).mono ?_;rintro e wr ⟨rfl,rfl⟩))
     have hrE:Row w.heap.size wr (.slice oo O.length ocap) (varsL (t.take (k+1))):=by rw [E1.out];exact hr
     have hME:MetAt wr w.heap.size (varsL (t.take (k+1))):=by rw [E1.out];exact hM
     exact ⟨⟨k+1,by omega,by go_num,hrE,hME,hne,hs⟩,by simp [intOf];omega⟩
    | false=>
     have E1:Hid (varsL (t.take (k+1))=O ++ [(v:Int)]):=by show _=_;rw [E.out,vstep_yes hv (by simpa using hin)];simp
     rw [hin] at q1
     have hb8:(O.length+1) * 8≤140737488355328:=by omega
     have hMs:=hM.set hv1 hv2
     have ks:Kept (fun k=>k=w.heap.size) wr (wr.setCell ⟨w.heap.size,v,none⟩ (.bool true)):=Kept.setCell (S:=fun k=>k=w.heap.size) (p:=⟨w.heap.size,v,none⟩) (Kept.refl _ _) (fun _=>rfl) _
     have hrs:Row w.heap.size (wr.setCell ⟨w.heap.size,v,none⟩ (.bool true)) (.slice oo O.length ocap) O:=ks.row hr (fun k e e' => hne (by rw [e,e']))
     have hss:Same0 w (wr.setCell ⟨w.heap.size,v,none⟩ (.bool true)):=hs.own (Nat.le_refl _) _
     have hsz:=hss.size
     have hAl:w.heap.size<wr.heap.size:=by obtain ⟨cs,q,_⟩:=hM;exact lt_of_at q
     have E3:Hid ((wr.setCell ⟨w.heap.size,v,none⟩ (.bool true)).heap.size=wr.heap.size):=by show _=_;simp [World.setCell]
     clear hM hr
     go_wp2_with (first | (go_at_call 155;refine (cV _).mono ?_;rintro e wr ⟨rfl,rfl⟩) | (at_builtin;refine wpList_push rfl _ _ 51 rfl Tryz.underlying51 w.heap.size O (.slice oo O.length ocap) rfl hrs (v:Int) (by rw [E3.out];rfl) hsz hb8 ?_;intro g gcap w4 hr4 hk4 hat4;have hs4:=hss.onto hrs hk4))
     have hM4:MetAt w4 w.heap.size (O ++ [(v:Int)]):=hMs.kept hk4 hne
     have hne4:Value.ownBlock (.slice (some ⟨g,0,none⟩) (O.length+1) gcap)≠some w.heap.size:=by
      simp only [Value.ownBlock,ne_eq,Option.some.injEq]
      rcases hat4 with e | e
      ·intro e'; exact hne (by rw [e,e'])
      ·have e3:=E3.out
       omega
     rw [← E1.out] at hr4 hM4
     go_roundw
     case rel=>first | exact ⟨k+1,by omega,by go_num,hr4,hM4,hne4,hs4⟩ | ((repeat apply Exists.intro);exact ⟨⟨k+1,by omega,by go_num,hr4,hM4,hne4,hs4⟩,rfl⟩)
     case measure=>simp [intOf];omega
  ·obtain rfl:k=t.length:=by omega
   rw [List.take_length] at hr
   go_wp2
   go_ret
   refine ⟨_,rfl,?_,hs⟩
   simpa using hr
def Lists (w:World) (lo:Option Addr) (ls:List (List Int)):Prop:=
 ls=[]∨∃ b off,lo=some ⟨b,off,none⟩∧b<w.heap.size∧∀ i (h:i<ls.length),∃ ao cap,w.cell? ⟨b,off+i,none⟩=some (.slice ao ls[i].length cap)∧IntsAt w ao ls[i]∧(ao=none→ls[i].length=0∧cap=0)
structure PlAt (s:Nat) (wr:World) (g n:Nat) (cs:List Value) (done:List (List Int)):Prop where
 row:wr.ownsRow s 74 1 (.slice (some ⟨g,0,none⟩) n n) n cs
 len:done.length≤n
 each:∀ j (h:j<done.length),∃ v,cs[j]? = some v∧Row s wr v done[j]∧v.ownBlock≠some g
 apart:∀ i j vi vj,i<done.length→j<done.length→i≠j→cs[i]? = some vi→cs[j]? = some vj→∀ k,vi.ownBlock=some k→vj.ownBlock≠some k
theorem wpList_more {w0:World} {ops:Array Oper} {rest:List Oper} {o:Oper} {a:Act} {Q:Exit→Act→World→Prop} (hgd:o.guard=none) (s x:Operand) (t:TypeId)
  (ho:o.op=.call { callee:=.builtin .append,args:=#[s,x],argTypes:=#[t,t] }) (ht:Tryz.prog.underlying t=some (.slice 3))
  (base:Nat) (xs:List Int) (v:Value) (hs:a.eval s=v) (hr:Row base w0 v xs) (ys:List Int) (ad:Addr) (m c:Nat) (hx:a.eval x=.slice (some ad) m c) (hm:m=ys.length) (hy:IntsAt w0 (some ad) ys) (hb:base≤w0.heap.size) (hsz:(xs.length+ys.length) * 8≤140737488355328)
  (h:∀ v' w', Row base w' v' (xs++ys)→Kept (fun k=>v.ownBlock=some k) w0 w' → wpList Tryz.prog ops Q rest (a.put o.dst v') w') :
  wpList Tryz.prog ops Q (o :: rest) a w0:=by
 subst hm
 obtain ⟨i,hi,hz0,hz1,hz2⟩:=info_parts info_intT
 refine wpList_append_own _ hgd s x t ho base 3 i (.int .i64 0) 1 8 ht hi hz0 hz1 hz2 rfl (by decide) v xs.length (iv xs) hs hr ad ys.length c (iv ys) hx (by rw [iv_length];omega) (fun j u hj=>?_) (iv_oneCell ys) (by unfold maxLen;omega) hsz hb ?_
 ·obtain ⟨ad', e,hc⟩:=hy.src (by have:=(List.getElem?_eq_some_iff.1 hj).1;omega)
  cases e
  exact hc j u hj
 ·intro v' w' hown hgrow _
  refine h v' w' ?_ (Kept.grown (Kept.refl _ w0) hgrow (fun _ e _=>e))
  unfold Row;rw [iv_append,List.length_append];exact hown
theorem row_empty (w:World) (base:Nat) (hb:base≤w.heap.size) {o:Obj} (ho:o=.cells #[] 3 (0,0)):Row base (w.alloc o) (.slice (some ⟨w.heap.size,0,none⟩) 0 0) []:=by
 subst ho
 exact ⟨rfl,.inr ⟨w.heap.size,0, #[],rfl,hb,heap_alloc_new w _,Nat.le_refl _,by unfold maxLen;omega,rfl,rfl⟩⟩
set_option maxHeartbeats 4000000 in
theorem rput_any {n:Nat} {w:World} {rv:Value} {L:List Sym} (h:Rl n w rv L) {ao uo:Option Addr} {cap ucap:Nat} {t u:List Int} (ht:IntsAt w ao t) (hm:t.length≤2000) (hcap:t.length≤cap) (hT:IsT L t) (p:Nat) (hp:p<t.length) (hu:IntsAt w uo u) (hum:u.length≤2000) (hun:0<u.length) :
  Calls Tryz.prog 143 #[rv,.slice ao t.length cap,.int .i64 (p:Int),.slice uo u.length ucap] w fun e w' => ∃ v,e=.returned v∧Row w.heap.size w' v (putN L t p u)∧Same0 w w' := by
 have c2:∀ w1,Same0 w w1→Calls Tryz.prog 195 #[rv,.slice ao t.length cap,.int .i64 (p:Int)] w1 fun e w' => e=.returned (.int .i64 (endN L t p:Int))∧w' = w1:=fun w1 hk=>rend_any (cap:=cap) (h.same hk) (ht.same hk) hm p (by omega)
 obtain ⟨ro,rcap,rfl⟩:=row_shape h.1
 obtain ⟨hl1,hl2⟩:=endN_le hT hp
 obtain ⟨tb,off,rfl,htb,hc⟩:=ht.get hp
 obtain ⟨ub,uoff,rfl,_,_⟩:=hu.get (i:=0) hun
 have i0:¬ (p:Int)<0:=by omega
 have i1:(0:Int)≤(p:Int):=by omega
 have i3:(endN L t p:Int)≤(t.length:Int):=by omega
 have i4:(0:Int)≤(endN L t p:Int):=by omega
 have i5:(p:Int)<(t.length:Int):=by omega
 have i6:(p:Int)≤(cap:Int):=by omega
 have k0:Same0 w (w.alloc (.cells #[] 3)):=(Kept.refl _ w).alloc _
 have r0:Row w.heap.size (w.alloc (.cells #[] 3)) (.slice (some ⟨w.heap.size,0,none⟩) 0 0) []:=row_empty w _ (Nat.le_refl _) rfl
 have cI:IntsAt (w.alloc (.cells #[] 3)) (some ⟨tb,off,none⟩) (t.take p):=by simpa using (ht.same k0).cut 0 p
 have tail:∀ w1 (a2:Option Addr),Same0 w w1→(a2=some ⟨tb,off+endN L t p,none⟩∨cap=endN L t p)→IntsAt w1 a2 (t.drop (endN L t p)):=fun w1 a2 hk e=>by
  rcases e with rfl | e
  ·simpa using (ht.same hk).cut (endN L t p) t.length
  ·rw [List.drop_eq_nil_of_le (by omega)];exact IntsAt.nil _ _
 have z0:=k0.size
 have l1:(t.take p).length=p:=by simp;omega
 have H:Hid (putN L t p u=(t.take p++u)++t.drop (endN L t p)):=rfl
 have l2:(t.drop (endN L t p)).length=t.length-endN L t p:=by simp
 have HT:Hid (∀ w1 (a2:Option Addr),Same0 w w1→(a2=some ⟨tb,off+endN L t p,none⟩∨cap=endN L t p)→IntsAt w1 a2 (t.drop (endN L t p))):=tail
 have HC:Hid (∀ w1,Same0 w w1→Calls Tryz.prog 195 #[.slice ro L.length rcap,.slice (some ⟨tb,off,none⟩) t.length cap,.int .i64 (p:Int)] w1 fun e w' => e=.returned (.int .i64 (endN L t p:Int))∧w' = w1):=c2
 clear tail c2
 go_enter Tryz.func143,Tryz.ntmps143
 go_upto_region 4 with (first
   | (at_builtin;refine wpList_more rfl (.tmp 18) (.tmp 21) 74 rfl Tryz.underlying74 w.heap.size [] _ rfl r0 (t.take p) _ _ _ rfl (by omega) cI z0 (by simp;omega) ?_;intro v1 w1 hr1 hk1))
 rw [List.nil_append] at hr1
 have s1:=k0.onto r0 hk1
 have u1:=hu.same s1
 have z1:=s1.size
 clear r0 cI hk1 k0 z0
 go_upto_region 5 with (first
   | (at_builtin;refine wpList_more rfl (.tmp 23) (.tmp 24) 74 rfl Tryz.underlying74 w.heap.size (t.take p) v1 rfl hr1 u _ _ _ rfl rfl u1 z1 (by omega) ?_;intro v2 w2 hr2 hk2))
 have s2:=s1.onto hr1 hk2
 have z2:=s2.size
 have c3:=HC.out _ s2
 have B3:Hid (((t.take p++u).length+(t.drop (endN L t p)).length) * 8≤140737488355328):=by show _≤_;rw [List.length_append,l1,l2];omega
 have B4:Hid (t.length-endN L t p=(t.drop (endN L t p)).length):=l2.symm
 clear l1 l2
 clear hr1 hk2 u1 z1 HC
 by_cases hcb:cap=endN L t p
 ·have t2:=HT.out _ (some ⟨tb,off,none⟩) s2 (.inr hcb)
  have B5:Hid (0=(t.drop (endN L t p)).length):=by have:=B4.out;show _=_;omega
  clear HT
  subst hcb
  go_wp2_with (first
   | (go_at_call 195;refine c3.mono ?_;rintro e w' ⟨rfl,rfl⟩)
   | (at_builtin;refine wpList_more rfl (.tmp 26) (.tmp 32) 74 rfl Tryz.underlying74 w.heap.size (t.take p++u) v2 rfl hr2 (t.drop (endN L t p)) _ _ _ rfl (by first | exact B4.out | exact B5.out) t2 z2 B3.out ?_;intro v3 w3 hr3 hk3))
  go_ret
  exact ⟨_,rfl,by rw [H.out];exact hr3,s2.onto hr2 hk3⟩
 ·have t2:=HT.out _ (some ⟨tb,off+endN L t p,none⟩) s2 (.inl rfl)
  clear HT
  go_wp2_with (first
   | (go_at_call 195;refine c3.mono ?_;rintro e w' ⟨rfl,rfl⟩)
   | (at_builtin;refine wpList_more rfl (.tmp 26) (.tmp 32) 74 rfl Tryz.underlying74 w.heap.size (t.take p++u) v2 rfl hr2 (t.drop (endN L t p)) _ _ _ rfl (by first | exact B4.out | exact B5.out) t2 z2 B3.out ?_;intro v3 w3 hr3 hk3))
  go_ret
  exact ⟨_,rfl,by rw [H.out];exact hr3,s2.onto hr2 hk3⟩
end Go.Proofs.YtmjgnfkbnofjoaaGreatDoor
namespace Go.Proofs.YtmjgnfkbnofjoaaGreatDoor
set_option maxRecDepth 100000
set_option linter.unusedVariables false
open Go.RowKit
attribute [local go_sem ↓] Go.wp_at_zero Go.wp_at_succ
def TabV (N:Nat) (w:World) (cs:Array Value) (σ:Tb):Prop:=cs.size=100∧∀ v,v<100→∃ ao cap,cs[v]? = some (.slice ao (σ v).length cap)∧IntsAt w ao (σ v)∧(σ v).length≤cap∧(σ v=[]→ao=none∧cap=0)∧∀ a,ao=some a→a.block<N
def TabAt (N:Nat) (w:World) (A:Nat) (σ:Tb):Prop:=∃ cs,w.heap[A]? = some (.cells cs 279 (0,0))∧TabV N w cs σ
theorem eqnil (w:World) (a:Option Addr) (n c n' c' : Nat):(binOp .eql 74 (.slice a n c) (.slice none n' c')).run Tryz.prog w=.ok (.bool a.isNone) w:=Lib.run_eql_slice_nil w _ _ a n c n' c' Tryz.underlying74
def Bnd (σ:Tb):Prop:=∀ v,(σ v).length≤2000
set_option maxHeartbeats 2000000 in
theorem clone_term {w:World} {ao:Option Addr} {cap:Nat} {xs:List Int} (hx:IntsAt w ao xs) (hn:0<xs.length) (hsz:xs.length≤2000) :
  Calls Tryz.prog 123 #[.slice ao xs.length cap] w fun e w' => ∃ v,e=.returned v∧Row w.heap.size w' v xs∧Same0 w w' := by
 obtain ⟨xb,off,rfl,hxb,hc⟩:=hx.get hn
 have k0:Same0 w (w.alloc (.cells #[] 3)):=(Kept.refl _ w).alloc _
 have r0:Row w.heap.size (w.alloc (.cells #[] 3)) (.slice (some ⟨w.heap.size,0,none⟩) 0 0) []:=row_empty w _ (Nat.le_refl _) rfl
 have cI:=hx.same k0
 have z0:=k0.size
 have hnil:=eqnil
 go_enter Tryz.func123,Tryz.ntmps123
 go_wp2_with (first | (at_builtin;refine wpList_more rfl _ _ 74 rfl Tryz.underlying74 w.heap.size [] _ rfl r0 xs _ _ _ rfl rfl cI z0 (by simp;omega) ?_;intro v' w4 hr4 hk4))
 go_ret
 exact ⟨_,rfl,by simpa using hr4,k0.onto r0 hk4⟩
structure PassAt (N:Nat) (w:World) (aB tB sB A b:Nat) (L:List Sym) (ao:Option Addr) (cap:Nat) (u:List Int) (k:Nat) (σ:Tb):Prop where
 a0:w.heap[aB]? = some (.cells #[.int .i64 (k:Int)] 3 (0,0))
 t0:w.heap[tB]? = some (.cells #[.slice ao u.length cap] 74 (0,0))
 s0:w.heap[sB]? = some (.cells #[.pointer (some ⟨b,0,none⟩)] 41 (0,0))
 tab:TabAt N w A σ
 ints:IntsAt w ao u
 ub:∀ a,ao=some a→a.block<N
 uc:u.length≤cap
 um:u.length≤2000
 sg:Sg N w b L
 ne:N≤aB∧N≤tB∧N≤sB∧N≤A∧aB≠tB∧aB≠sB∧aB≠A∧tB≠A∧sB≠A
theorem PassAt.cells {N:Nat} {w:World} {aB tB sB A b:Nat} {L:List Sym} {ao:Option Addr} {cap:Nat} {u:List Int} {k:Nat} {σ:Tb} (h:PassAt N w aB tB sB A b L ao cap u k σ) :
  w.cell? ⟨aB,0,none⟩=some (.int .i64 (k:Int))∧w.frozen? ⟨aB,0,none⟩=false∧w.cell? ⟨tB,0,none⟩=some (.slice ao u.length cap)∧w.cell? ⟨sB,0,none⟩=some (.pointer (some ⟨b,0,none⟩)):=
 ⟨cellAt h.a0 0,frozenAt h.a0 0,cellAt h.t0 0,cellAt h.s0 0⟩
structure WalkAt (Z:Array Value) (w wr:World) (b:Nat) (L:List Sym) (po:Option Addr) (p:List Int) (ao:Option Addr) (cap:Nat) (u:List Int) (i k:Nat) (σ:Tb):Prop where
 pass:PassAt w.heap.size wr (w.heap.size+1+1+1+1) (w.heap.size+1) w.heap.size (w.heap.size+1+1+1) b L ao cap u k σ
 res:wr.heap[w.heap.size+1+1]? = some (.cells Z 279 (0,0))
 pat:IntsAt wr po p
 mw:Proofs.YtmjgnfkbnofjoaaGreatDoor.mw L p u noT=Proofs.YtmjgnfkbnofjoaaGreatDoor.mw L (p.drop i) (u.drop k) σ
 even:Even L (p.drop i) (u.drop k)
 kle:k≤u.length
 bnd:Bnd σ
 kept:Kept (From w.heap.size) w wr
def bcells (l:List (Int × Value)):List Value:=l.flatMap (fun p=>[.int .i64 p.1,p.2])
structure BOwn (base:Nat) (w:World) (v:Value) (l:List (Int × Value)) (bs:List Bd):Prop where
 row:w.ownsRow base 321 2 v l.length (bcells l)
 len:l.length=bs.length
 each:∀ i (h:i<l.length) (h' : i<bs.length),l[i].1=bs[i].1∧Row base w l[i].2 bs[i].2∧∀ k,l[i].2.ownBlock=some k→v.ownBlock≠some k
 apart:∀ i j (hi:i<l.length) (hj:j<l.length),i≠j→∀ k,l[i].2.ownBlock=some k→l[j].2.ownBlock≠some k
def tabF (L:List Sym):List Bd→Tb→Except Int Tb
 | [],σ=>.ok σ
 | b :: r,σ=>if b.1<1∨99<b.1∨σ b.1.toNat≠[] then .error 50 else if checkE L b.2≠0 then .error (checkE L b.2) else tabF L r (updT σ b.1.toNat b.2)
structure TabW (Z:Array Value) (w wr:World) (L:List Sym) (bs:List Bd) (i:Nat) (σ:Tb):Prop where
 tab:TabAt w.heap.size wr (w.heap.size+1) σ
 res:wr.heap[w.heap.size]? = some (.cells Z 279 (0,0))
 eq:tabF L bs noT=tabF L (bs.drop i) σ
 bnd:Bnd σ
 kept:Same0 w wr
end Go.Proofs.YtmjgnfkbnofjoaaGreatDoor
namespace Go.Proofs.YtmjgnfkbnofjoaaGreatDoor
set_option linter.unusedVariables false
def vn (n:Int):Nat:=(-n).toNat
end Go.Proofs.YtmjgnfkbnofjoaaGreatDoor
namespace Go.Proofs.YtmjgnfkbnofjoaaGreatDoor
set_option maxRecDepth 100000
set_option linter.unusedVariables false
open Go.RowKit
attribute [local go_sem ↓] Go.wp_at_zero Go.wp_at_succ
end Go.Proofs.YtmjgnfkbnofjoaaGreatDoor
namespace Go.Proofs.YtmjgnfkbnofjoaaGreatDoor
set_option linter.unusedVariables false
structure Ren (f f' : Int→Int) (n:Int):Prop where
 back:f' (f n)=n
 neg:n<0→f n<0
 pos:0≤n→f n=n
theorem ren_mem {f f' : Int→Int} {o:List Int} {x:Int} (ho:∀ n∈o,Ren f f' n) (hx:Ren f f' x):f x∈o.map f ↔ x∈o:=by
 rw [List.mem_map]
 constructor
 ·rintro ⟨y,hy,e⟩
  have:=congrArg f' e
  rw [(ho y hy).back,hx.back] at this
  rw [← this];exact hy
 ·intro h;exact ⟨x,h,rfl⟩
theorem ren_idx {f f' : Int→Int}:∀ {o:List Int} {x:Int},(∀ n∈o,Ren f f' n)→Ren f f' x→(o.map f).idxOf (f x)=o.idxOf x
 | [],x,_,_=>rfl
 | y :: r,x,ho,hx=>by
  rw [List.map_cons,List.idxOf_cons,List.idxOf_cons,ren_idx (fun n hn=>ho n (by simp [hn])) hx]
  by_cases e:y=x
  ·subst e;simp
  ·have:¬ f y=f x:=fun g=>e (by have:=congrArg f' g;rwa [(ho y (by simp)).back,hx.back] at this)
   have h1:(y == x)=false:=by simpa using e
   have h2:(f y == f x)=false:=by simpa using this
   rw [h1,h2]
theorem wrF_ren {f f' : Int→Int} (u:List Int):∀ (o:List Int),(∀ n∈o,Ren f f' n)→(∀ n∈u,Ren f f' n)→wrF (o.map f) (u.map f)=wrF o u:=by
 induction u with
 | nil=>intro o _ _;rfl
 | cons x r ih=>
  intro o ho hu
  have hx:=hu x (by simp)
  have ev:vzs (o.map f) (f x)=(vzs o x).map f:=by
   unfold vzs
   by_cases h:x<0∧¬ x∈o
   ·rw [if_pos h,if_pos ⟨hx.neg h.1,fun g=>h.2 ((ren_mem ho hx).1 g)⟩];simp
   ·rw [if_neg h,if_neg (fun g=>h ⟨by
     by_cases q:x<0
     ·exact q
     ·have:=hx.pos (by omega);omega,fun q=>g.2 ((ren_mem ho hx).2 q)⟩)]
  have hv:∀ n∈vzs o x,Ren f f' n:=by
   intro n hn
   unfold vzs at hn
   split at hn
   ·rcases List.mem_append.1 hn with q | q
    ·exact ho n q
    ·simp only [List.mem_cons,List.not_mem_nil,or_false] at q;subst q;exact hx
   ·exact ho n hn
  rw [List.map_cons,wrF,wrF,ev,ih _ hv (fun n hn=>hu n (by simp [hn]))]
  congr 1
  unfold rn
  by_cases h:x<0
  ·rw [if_pos h,if_pos (hx.neg h),ren_idx hv hx]
  ·rw [if_neg h,if_neg (by rw [hx.pos (by omega)];exact h),hx.pos (by omega)]
theorem sub_one {L:List Sym} {g:Int→List Int}:∀ (u:List Int),(∀ n∈u,n<0→IsT L (g n))→(subV g u).length=u.length→subV g u=u.map (fun n=>if n<0 then (g n).headD 0 else n)
 | [],_,_=>rfl
 | n :: r,h,e=>by
  have h1:=subV_len r (fun m hm=>h m (by simp [hm]))
  rw [subV_cons,List.length_append,List.length_cons] at e
  rw [subV_cons,List.map_cons]
  by_cases hn:n<0
  ·have h2:=isT_pos (h n (by simp) hn)
   rw [if_pos hn] at e ⊢
   rw [if_pos hn]
   have h3:(g n).length=1:=by omega
   obtain ⟨y,hy⟩:=List.length_eq_one_iff.1 h3
   rw [sub_one r (fun m hm=>h m (by simp [hm])) (by omega),hy];rfl
  ·rw [if_neg hn] at e ⊢
   rw [if_neg hn]
   simp only [List.length_cons,List.length_nil] at e
   rw [sub_one r (fun m hm=>h m (by simp [hm])) (by omega)];rfl
theorem both_ways {L:List Sym} {u v:List Int} {g g' : Int→List Int} (h1:∀ n∈u,n<0→IsT L (g n)) (h2:∀ n∈v,n<0→IsT L (g' n)) (e1:v=subV g u) (e2:u=subV g' v):wrF [] v=wrF [] u:=by
 have l1:=subV_len u h1
 have l2:=subV_len v h2
 rw [← e1] at l1
 rw [← e2] at l2
 have m1:=sub_one u h1 (by rw [← e1];omega)
 have m2:=sub_one v h2 (by rw [← e2];omega)
 rw [← e1] at m1
 rw [← e2] at m2
 obtain ⟨f,hf⟩:∃ f:Int→Int,f=fun n=>if n<0 then (g n).headD 0 else n:=⟨_,rfl⟩
 obtain ⟨f', hf'⟩:∃ f:Int→Int,f=fun n=>if n<0 then (g' n).headD 0 else n:=⟨_,rfl⟩
 rw [← hf] at m1
 rw [← hf'] at m2
 have hb:∀ n∈u,f' (f n)=n:=by
  have:u=u.map (fun n=>f' (f n)):=by rw [m1,List.map_map] at m2;exact m2
  intro n hn
  obtain ⟨i,hi,rfl⟩:=List.getElem_of_mem hn
  have h3:=congrArg (fun l=>l[i]?) this
  simp only [List.getElem?_map,List.getElem?_eq_getElem hi,Option.map_some,Option.some.injEq] at h3
  exact h3.symm
 have hpos:∀ n,0≤n→f n=n:=fun n hn=>by rw [hf];simp only;rw [if_neg (by omega)]
 have hpos' : ∀ n,0≤n→f' n=n:=fun n hn=>by rw [hf'];simp only;rw [if_neg (by omega)]
 have hr:∀ n∈u,Ren f f' n:=fun n hn=>⟨hb n hn,fun hn0=>by
  by_cases q:f n<0
  ·exact q
  ·have:=hb n hn;rw [hpos' _ (by omega)] at this;omega,hpos n⟩
 have:=wrF_ren u [] (by simp) hr
 rw [m1];exact this
theorem subV_flat {α:Type} (f:Int→List Int) (g:α→List Int) (l:List α):subV f (l.flatMap g)=l.flatMap (fun k=>subV f (g k)):=by
 induction l with
 | nil=>rfl
 | cons x r ih=>rw [List.flatMap_cons,List.flatMap_cons,subV_append,ih]
theorem subV_sh (f:Int→List Int) {ap:Int} (h:0≤ap) (b:List Int):subV f (b.map (shF ap))=subV (fun n=>f (n-ap)) b:=by
 induction b with
 | nil=>rfl
 | cons n r ih=>
  rw [List.map_cons,subV_cons,subV_cons,ih]
  congr 1
  unfold shF
  by_cases hn:n<0
  ·rw [if_pos hn,if_pos (by omega),if_pos hn]
  ·rw [if_neg hn,if_neg hn,if_neg hn]
def ComU (L:List Sym) (a b:List Int) (ap:Int) (u:List Int):Prop:=∃ ld k,solF L (jl a b ap) a.length=some (ld,k)∧Closed L (jl a b ap) a.length ld∧Val L (jl a b ap) ld 0 u∧k=min (u.length:Int) 2001
theorem ComU.uniq {L:List Sym} {a b:List Int} {ap:Int} {u v:List Int} (h:ComU L a b ap u) (k:ComU L a b ap v):u=v:=by
 obtain ⟨ld,k1,h1,_,h2,_⟩:=h
 obtain ⟨ld', k2,g1,_,g2,_⟩:=k
 rw [h1] at g1
 simp only [Option.some.injEq,Prod.mk.injEq] at g1
 obtain ⟨rfl,rfl⟩:=g1
 exact h2.uniq g2
theorem com_u {L:List Sym} {a b:List Int} {ap:Nat} (hap:ap≤99) (ha:checkE L a=0) (hb:checkE L b=0):solF L (jl a b ap) a.length=none∨∃ u,ComU L a b ap u:=by
 obtain ⟨x1,x2,x3⟩:=checkE_zero.1 ha
 obtain ⟨y1,y2,y3⟩:=checkE_zero.1 hb
 have hT:=trs_jl (apart:=(ap:Int)) (by omega) x3 y3
 have hv:∀ x∈jl a b ap, -198≤x:=by
  intro x hx
  unfold jl at hx
  rcases List.mem_append.1 hx with e | e
  ·have:=(badE_zero.1 x2 x e).2;omega
  ·obtain ⟨y,hy,rfl⟩:=List.mem_map.1 e
   have:=(badE_zero.1 y2 y hy).2
   unfold shF;split <;> omega
 have p1:=isT_pos x3
 have p2:=isT_pos y3
 have hl:(jl a b ap).length=a.length+b.length:=by simp [jl]
 cases hs:solF L (jl a b ap) a.length with
 | none=>exact .inl rfl
 | some v=>
  obtain ⟨ld,k⟩:=v
  right
  obtain ⟨res,hU,hR1,hR2⟩:=(sol_any hT hv (m:=a.length) (by omega) (by omega)).uni
  cases res with
  | none=>rw [hR1 rfl] at hs;cases hs
  | some ld' =>
   obtain ⟨g1,k', sz', g2,g3,g4⟩:=hR2 ld' rfl
   by_cases e:k' = -1
   ·rw [g3 e] at hs;cases hs
   ·obtain ⟨f1,u,f2,f3⟩:=g4 e
    rw [f1] at hs
    simp only [Option.some.injEq,Prod.mk.injEq] at hs
    obtain ⟨rfl,rfl⟩:=hs
    exact ⟨u,ld', k', f1,closed_of hv (by omega) (by omega) hU,f2,f3⟩
theorem jl_low {L:List Sym} {a b:List Int} (ha:checkE L a=0) (hb:checkE L b=0) {ap:Nat} (hap:ap≤99):∀ x∈jl a b ap, -198≤x:=by
 intro x hx
 unfold jl at hx
 rcases List.mem_append.1 hx with e | e
 ·have:=(badE_zero.1 (checkE_zero.1 ha).2.1 x e).2;omega
 ·obtain ⟨y,hy,rfl⟩:=List.mem_map.1 e
  have:=(badE_zero.1 (checkE_zero.1 hb).2.1 y hy).2
  unfold shF;split <;> omega
theorem most_com {L:List Sym} {a b:List Int} (ha:checkE L a=0) (hb:checkE L b=0) {fa fb:Int→List Int} (ta:∀ n∈a,n<0→IsT L (fa n)) (tb:∀ n∈b,n<0→IsT L (fb n)) {T:List Int} (e1:subV fa a=T) (e2:subV fb b=T) :
  ∃ u g,ComU L a b 99 u∧T=subV g u∧(∀ n∈u,n<0→IsT L (g n)):=by
 obtain ⟨x1,x2,x3⟩:=checkE_zero.1 ha
 obtain ⟨y1,y2,y3⟩:=checkE_zero.1 hb
 have hT:=trs_jl (apart:=(99:Int)) (by omega) x3 y3
 have hv:∀ x∈jl a b 99, -198≤x:=jl_low ha hb (ap:=99) (by omega)
 have p1:=isT_pos x3
 have p2:=isT_pos y3
 have hl:(jl a b 99).length=a.length+b.length:=by simp [jl]
 obtain ⟨vv,hvv⟩:∃ vv:Int→List Int,vv=fun n=>if -99≤n then (if n∈a then fa n else [n]) else (if n+99∈b then fb (n+99) else [n]):=⟨_,rfl⟩
 have vT:∀ n,n<0→IsT L (vv n):=by
  intro n hn
  rw [hvv]
  simp only
  by_cases h : -99≤n
  ·rw [if_pos h]
   by_cases q:n∈a
   ·rw [if_pos q];exact ta n q hn
   ·rw [if_neg q];exact isT_var L hn
  ·rw [if_neg h]
   by_cases q:n+99∈b
   ·rw [if_pos q];exact tb _ q (by omega)
   ·rw [if_neg q];exact isT_var L hn
 have va:subV vv a=T:=by
  rw [← e1]
  refine subV_congr a (fun n hn h0=>?_)
  rw [hvv]
  simp only
  rw [if_pos ((badE_zero.1 x2 n hn).2),if_pos hn]
 have vb:subV vv (b.map (shF 99))=T:=by
  rw [subV_sh vv (by omega),← e2]
  refine subV_congr b (fun n hn h0=>?_)
  rw [hvv]
  simp only
  rw [if_neg (by omega),if_pos (by rw [Int.sub_add_cancel];exact hn),Int.sub_add_cancel]
 obtain ⟨val,hval⟩:∃ val:Int→List Int,val=fun x=>if x<0 then vv x else subV vv (cutJ L (jl a b 99) x.toNat):=⟨_,rfl⟩
 have vn:∀ n,n<0→val n=vv n:=fun n hn=>by rw [hval];simp only;rw [if_pos hn]
 have vp:∀ p:Nat,val p=subV vv (cutJ L (jl a b 99) p):=fun p=>by rw [hval];simp only;rw [if_neg (by omega),Int.toNat_natCast]
 have hg:Good L (jl a b 99) val:=by
  refine ⟨fun p hp hs=>?_,fun p hp hs=>?_,fun x hx=>?_⟩
  ·rw [vp,cut_sym hT hp,subV_cons,if_neg (by omega),subV_flat]
   simp only [vp];rfl
  ·rw [vp,cut_sym hT hp,subV_cons,if_pos hs,vn _ hs]
   have:kidsL L (jl a b 99) p=[]:=by unfold kidsL;rw [show arN L (at' (jl a b 99) p)=0 by unfold arN;rw [if_pos hs]];rfl
   rw [this];simp [subV]
  ·by_cases h:x<0
   ·rw [vn x h];exact vT x h
   ·obtain ⟨p,rfl⟩:=Int.eq_ofNat_of_zero_le (Int.not_lt.1 h)
    have:=vp p
    show IsT L (val (p:Int))
    rw [this]
    unfold IsT
    rw [need_subV _ (fun n _ hn=>vT n hn)]
    exact cut_isT hT (by have:=hx.2;omega)
 have c0:val 0=T:=by
  have:=vp 0
  rw [show ((0:Nat):Int)=0 from rfl] at this
  rw [this,← va]
  congr 1
  unfold cutJ
  rw [show endN L (jl a b 99) 0=a.length from end_first (b:=b.map (shF 99)) x3]
  unfold jl
  rw [List.drop_zero,Nat.sub_zero,List.take_left]
 have cm:val (a.length:Nat)=T:=by
  rw [vp,← vb]
  congr 1
  unfold cutJ
  rw [show endN L (jl a b 99) a.length=a.length+(b.map (shF 99)).length from end_second (a:=a) (isT_sh (by omega) y3)]
  unfold jl
  rw [List.drop_left,Nat.add_sub_cancel_left,List.take_length]
 obtain ⟨ld,k,u,hs,hcl,hu,hk,he,_⟩:=sol_good hT hv (m:=a.length) (by omega) (by omega) hg (by rw [c0,cm])
 refine ⟨u,val,⟨ld,k,hs,hcl,hu,hk⟩,by rw [← c0];exact he,fun n hn h0=>?_⟩
 rw [vn n h0];exact vT n h0
theorem inst_com {L:List Sym} {a b:List Int} (ha:checkE L a=0) (hb:checkE L b=0) {ap:Nat} (hap:ap≤99) {u:List Int} (h:ComU L a b ap u):∃ f:Int→List Int,(∀ n,n<0 → -198≤n→IsT L (f n))∧u=subV f a∧u=subV (fun n=>f (n-ap)) b∧IsT L u∧(∀ n∈u,0≤n→n<(L.length:Int)):=by
 obtain ⟨x1,x2,x3⟩:=checkE_zero.1 ha
 obtain ⟨y1,y2,y3⟩:=checkE_zero.1 hb
 obtain ⟨ld,k,h1,hc,hu,h3⟩:=h
 have p1:=isT_pos x3
 have hl:(jl a b ap).length=a.length+b.length:=by simp [jl]
 obtain ⟨f,hf⟩:=varT_some L (jl a b ap) ld
 obtain ⟨e1,e2⟩:=both_sub (by omega) x3 y3 hc hf hu
 have p0:UPart (jl a b ap) 0:=part_nat (p:=0) (by omega)
 refine ⟨f,fun n hn h=>hf.isT hc.trs hc.ok hn ⟨h,by omega⟩,e1,by rw [← subV_sh f (by omega)];exact e2,hu.isT hc.trs hc.ok p0,fun n hn h0=>?_⟩
 rcases hu.in hc.trs hc.ok p0 n hn with ⟨q,_⟩ | ⟨_,q⟩
 ·omega
 ·unfold jl at q
  rcases List.mem_append.1 q with e | e
  ·exact (badE_zero.1 x2 n e).1
  ·obtain ⟨y,hy,hy2⟩:=List.mem_map.1 e
   have:=(badE_zero.1 y2 y hy).1
   unfold shF at hy2
   split at hy2 <;> omega
theorem com_swap {L:List Sym} {a b:List Int} (ha:checkE L a=0) (hb:checkE L b=0) {u:List Int} (h:ComU L b a 99 u):∃ v,ComU L a b 99 v∧v.length=u.length∧wrF [] u=wrF [] v:=by
 have step:∀ (a b:List Int),checkE L a=0→checkE L b=0→∀ u,ComU L b a 99 u→∃ v g,ComU L a b 99 v∧u=subV g v∧(∀ n∈v,n<0→IsT L (g n)):=by
  intro a b ha hb u h
  obtain ⟨f,h1,h2,h3,_⟩:=inst_com hb ha (ap:=99) (by omega) h
  have la:=fun n hn=>(badE_zero.1 (checkE_zero.1 ha).2.1 n hn).2
  have lb:=fun n hn=>(badE_zero.1 (checkE_zero.1 hb).2.1 n hn).2
  exact most_com ha hb (fa:=fun n=>f (n-((99:Nat):Int))) (fb:=f) (fun n hn h0=>h1 _ (by omega) (by have:=la n hn;omega)) (fun n hn h0=>h1 n h0 (by have:=lb n hn;omega)) h3.symm h2.symm
 obtain ⟨v,g,h1,h2,h3⟩:=step a b ha hb u h
 obtain ⟨u', g', k1,k2,k3⟩:=step b a hb ha v h1
 have:=k1.uniq h
 subst this
 have e:=both_ways h3 k3 h2 k2
 have hl:=congrArg List.length e
 rw [wrF_length,wrF_length] at hl
 exact ⟨v,h1,hl.symm,e⟩
end Go.Proofs.YtmjgnfkbnofjoaaGreatDoor
