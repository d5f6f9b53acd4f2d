import Derived.Test.YtblgblgchkonhaaGreatGO02
import Derived.Laws.AppendOwnNone
import Derived.SizedLaws
import Derived.Test.YtblgblgchkonhaaGreatGO01
import Derived.OwnWalk
import Derived.Deep.RegionHeld3
namespace Go.Proofs.YtblgblgchkonhaaGreat
set_option maxRecDepth 100000
set_option linter.unusedVariables false
open Go.RowKit
attribute [local go_sem ↓] Go.wp_at_zero Go.wp_at_succ
theorem ints_new (w:World) (xs:List Int) (T:TypeId) {o:Obj} (ho:o=.cells (iv xs).toArray T (0,0)):IntsAt (w.alloc o) (some ⟨w.heap.size,0,none⟩) xs:=by
 subst ho
 refine .inr ⟨_,_,rfl,by simp,fun i hi=>?_⟩
 rw [Nat.zero_add,cellAt (heap_alloc_new w _)]
 simpa using iv_get hi
theorem Row.ints {base:Nat} {w:World} {v:Value} {xs:List Int} (h:Row base w v xs):∃ ao cap,v=.slice ao xs.length cap∧IntsAt w ao xs∧xs.length≤cap∧(∀ a,ao=some a→base≤a.block∧a.block<w.heap.size):=by
 rcases h.2 with ⟨rfl,h0⟩ | ⟨g,cap,cur,rfl,hb,hg,h1,h2,h3,h4⟩
 ·have:xs=[]:=List.eq_nil_of_length_eq_zero h0
  subst this
  exact ⟨none,0,rfl,.inl rfl,Nat.le_refl _,fun a e=>by cases e⟩
 ·refine ⟨_,cap,rfl,.inr ⟨g,0,rfl,lt_of_at hg,fun i hi=>?_⟩,h1,fun a e=>by cases e;exact ⟨hb,lt_of_at hg⟩⟩
  rw [Nat.zero_add,h.cellAt i (by omega)]
  exact iv_get hi
theorem Same0.new {w w' : World} {o:Obj} (h:Same0 (w.alloc o) w'):Same0 w w' := Same0.trans' ((Kept.refl _ w).alloc o) h
set_option maxHeartbeats 1000000 in
theorem rArity_any {n:Nat} {w:World} {rv:Value} {L:List Sym} (h:Rl n w rv L) (x:Int):Calls Tryz.prog 88 #[rv,.int .i64 x] w fun e w' => e=.returned (.int .i64 (if x<0∨(L.length:Int)≤x then -1 else (arN L x:Int)))∧w' = w:=by
 obtain ⟨hr,_,ha,hlen⟩:=h
 obtain ⟨ao,cap,rfl⟩:=row_shape hr
 by_cases h0:x<0
 ·go_enter Tryz.func88,Tryz.ntmps88
  go_wp2
  go_ret
  exact ⟨rfl,rfl⟩
 ·by_cases h1:(L.length:Int)≤x
  ·go_enter Tryz.func88,Tryz.ntmps88
   go_wp2
   go_ret
   exact ⟨rfl,rfl⟩
  ·obtain ⟨i,rfl⟩:∃ i:Nat,x=(i:Int):=⟨x.toNat,by omega⟩
   have hi:i<L.length:=by omega
   have H:Hid (((arN L (i:Int):Nat):Int)=L[i].ar):=ar_of ha hi
   obtain ⟨g,rfl,hg,x0,x1,x2⟩:=row_sym hr hi
   have i1:(0:Int)≤(i:Int):=by omega
   have i2:(i:Int)<(L.length:Int):=by omega
   go_enter Tryz.func88,Tryz.ntmps88
   go_wp2
   go_ret
   exact ⟨by rw [H.out];rfl,rfl⟩
set_option maxHeartbeats 1000000 in
theorem rarity_any {n:Nat} {w:World} {rv:Value} {L:List Sym} (h:Rl n w rv L) (x:Int):Calls Tryz.prog 66 #[rv,.int .i64 x] w fun e w' => e=.returned (.int .i64 (arN L x:Int))∧w' = w:=by
 have c:=rArity_any h x
 by_cases hx:x<0∨(L.length:Int)≤x
 ·rw [if_pos hx] at c
  have H:Hid (arN L x=0):=ar_no hx
  go_enter Tryz.func66,Tryz.ntmps66
  go_wp2_with (first | (go_at_call 88;refine c.mono ?_;rintro e w' ⟨rfl,rfl⟩))
  go_ret
  exact ⟨by rw [H.out];rfl,rfl⟩
 ·rw [if_neg hx] at c
  go_enter Tryz.func66,Tryz.ntmps66
  go_wp2_with (first | (go_at_call 88;refine c.mono ?_;rintro e w' ⟨rfl,rfl⟩))
  go_ret
  exact ⟨rfl,rfl⟩
set_option maxHeartbeats 2000000 in
theorem rend_any {n:Nat} {w:World} {rv:Value} {L:List Sym} (h:Rl n w rv L) {ao:Option Addr} {cap:Nat} {t:List Int} (ht:IntsAt w ao t) (hm:t.length≤2000) (p0:Nat) (hp0:p0≤t.length) :
  Calls Tryz.prog 67 #[rv,.slice ao t.length cap,.int .i64 (p0:Int)] w fun e w' => e=.returned (.int .i64 (endN L t p0))∧w' = w:=by
 have ha:=h.2.2.1
 go_enter Tryz.func67,Tryz.ntmps67
 go_wp2
 go_loop [7,8] (fun la at' => ∃ p k:Nat,p0≤p∧p≤t.length∧at' = .int .i64 (p:Int)∧la=.int .i64 (k:Int)∧k≤1+6 * (p-p0)∧Hid (endO L t p0=(scan L k (t.drop p)).map (p + ·))) (fun _ at' => t.length-(intOf at').toNat)
 case atStart=>exact ⟨p0,1,Nat.le_refl _,hp0,rfl,rfl,by omega,rfl⟩
 case round=>
  obtain ⟨p,k,h1,h2,rfl,rfl,h3,h4⟩:=hrel
  by_cases hlt:p<t.length
  ·cases k with
   | zero=>
    have H6:Hid (endN L t p0=p):=by
     have:=h4.out
     simp [scan_zero] at this
     show _=_
     simp [endN,this]
    go_wp2
    go_ret
    exact ⟨by rw [H6.out];rfl,rfl⟩
   | succ k=>
    obtain ⟨tb,off,rfl,htb,hc⟩:=ht.get hlt
    have c:=rarity_any h t[p]
    have hle:=arN_le ha t[p]
    have H5:Hid (endO L t p0=(scan L (k+arN L t[p]) (t.drop (p+1))).map (p+1 + ·)):=endO_round h4.out hlt
    have i1:(0:Int)≤(p:Int):=by omega
    have i2:(p:Int)<(t.length:Int):=by omega
    clear h4
    generalize arN L t[p]=a at *
    go_wp2_with (first | (go_at_call 66;refine c.mono ?_;rintro e w' ⟨rfl,rfl⟩))
    refine ⟨⟨p+1,k+a,by omega,by omega,by go_num,by first | (congr 1;omega) | congr 1,by omega,H5⟩,by simp [intOf];omega⟩
  ·have H6:Hid (endN L t p0=p):=by
    have h4:=h4.out
    rw [List.drop_eq_nil_of_le (by omega)] at h4
    show _=_
    cases k with
    | zero=>simp [scan] at h4;simp [endN,h4]
    | succ k=>simp [scan] at h4;simp [endN,h4];omega
   go_wp2
   go_ret
   exact ⟨by rw [H6.out];rfl,rfl⟩
theorem need_take {L:List Sym} {t:List Int} {p k:Nat} (h:need L 1 (t.take p)=some k) (hp:p<t.length):(k=0→¬ need L 1 t=some 0)∧(∀ j,k=j+1→need L 1 (t.take (p+1))=some (j+arN L t[p])):=by
 have e:t=t.take p++(t[p] :: t.drop (p+1)):=by rw [← List.drop_eq_getElem_cons hp,List.take_append_drop]
 constructor
 ·rintro rfl hn
  rw [e,need_append,h,Option.bind_some,need] at hn
  cases hn
 ·rintro j rfl
  rw [List.take_add_one,need_append,h,List.getElem?_eq_getElem hp]
  simp [need]
theorem checkE_shape {L:List Sym} {t:List Int} (h:¬ 2000<t.length) (hb:badE L t=0):checkE L t=if need L 1 t=some 0 then 0 else 23:=by
 simp [checkE,h,hb]
set_option maxHeartbeats 4000000 in
theorem rcheck_any {n:Nat} {w:World} {rv:Value} {L:List Sym} (h:Rl n w rv L) {ao:Option Addr} {cap:Nat} {t:List Int} (ht:IntsAt w ao t) (hm:t.length≤maxLen) :
  Calls Tryz.prog 36 #[rv,.slice ao t.length cap] w fun e w' => e=.returned (.int .i64 (checkE L t))∧w' = w:=by
 unfold maxLen at hm
 have ha:=h.2.2.1
 have hL64:=h.2.2.2
 obtain ⟨ro,rcap,rfl⟩:=row_shape h.1
 by_cases hl:2000<t.length
 ·have H:Hid (checkE L t=20):=checkE_long hl
  go_enter Tryz.func36,Tryz.ntmps36
  go_wp2
  go_ret
  exact ⟨ret_int H.out.symm,rfl⟩
 ·have hl' : t.length≤2000:=by omega
  go_enter Tryz.func36,Tryz.ntmps36
  go_wp2
  go_loop [5] (fun i=>∃ p:Nat,p≤t.length∧i=.int .i64 (p:Int)∧Hid (badE L (t.take p)=0)) (fun i=>t.length-(intOf i).toNat)
  case atStart=>exact ⟨0,Nat.zero_le _,rfl,by simp [badE,Hid]⟩
  case round=>
   obtain ⟨p,h1,rfl,h2⟩:=hrel
   by_cases hlt:p<t.length
   ·obtain ⟨tb,off,rfl,htb,hc⟩:=ht.get hlt
    have i1:(0:Int)≤(p:Int):=by omega
    have i2:(p:Int)<(t.length:Int):=by omega
    obtain ⟨s1,s2⟩:=badE_step hlt h2.out
    by_cases q1:(L.length:Int)≤t[p]
    ·have e0:numE L t[p]=21:=by simp [numE,q1]
     have H:Hid (checkE L t=21):=by
      show _=_
      have:=s1 (by omega)
      rw [checkE_bad hl (by omega)];omega
     clear s1 s2 h2 e0
     go_wp2
     go_ret
     exact ⟨ret_int H.out.symm,rfl⟩
    ·by_cases q2:t[p] < -99
     ·have e0:numE L t[p]=22:=by simp [numE,q1,q2]
      have H:Hid (checkE L t=22):=by
       show _=_
       have:=s1 (by omega)
       rw [checkE_bad hl (by omega)];omega
      clear s1 s2 h2 e0
      go_wp2
      go_ret
      exact ⟨ret_int H.out.symm,rfl⟩
     ·have e0:numE L t[p]=0:=by simp [numE,q1,q2]
      have S2:Hid (badE L (t.take (p+1))=0):=s2 e0
      clear s1 s2 h2 e0
      go_wp2
      exact ⟨⟨p+1,by omega,by go_num,S2⟩,by simp [intOf];omega⟩
   ·obtain rfl:p=t.length:=by omega
    have hb:=h2.out
    rw [List.take_length] at hb
    have HC:Hid (checkE L t=if need L 1 t=some 0 then 0 else 23):=checkE_shape hl hb
    clear h2 hb
    go_wp2
    go_loop [6,7] (fun la i=>∃ p k:Nat,p≤t.length∧i=.int .i64 (p:Int)∧la=.int .i64 (k:Int)∧k≤1+6 * p∧Hid (need L 1 (t.take p)=some k)) (fun _ i=>t.length-(intOf i).toNat)
    case atStart=>exact ⟨0,1,Nat.zero_le _,rfl,rfl,by omega,by simp [need,Hid]⟩
    case round=>
     obtain ⟨p,k,g1,rfl,rfl,g2,g3⟩:=hrel
     by_cases hlt2:p<t.length
     ·obtain ⟨tb,off,rfl,htb,hc⟩:=ht.get hlt2
      have i1:(0:Int)≤(p:Int):=by omega
      have i2:(p:Int)<(t.length:Int):=by omega
      obtain ⟨s1,s2⟩:=need_take g3.out hlt2
      cases k with
      | zero=>
       have H:Hid (checkE L t=23):=by show _=_;rw [HC.out,if_neg (s1 rfl)]
       clear s1 s2 g3 HC
       go_wp2
       go_ret
       exact ⟨ret_int H.out.symm,rfl⟩
      | succ k=>
       have S2:Hid (need L 1 (t.take (p+1))=some (k+arN L t[p])):=s2 k rfl
       have c:=rarity_any h t[p]
       have hle:=arN_le ha t[p]
       clear s1 s2 g3 HC
       generalize arN L t[p]=a at *
       go_wp2_with (first | (go_at_call 66;refine c.mono ?_;rintro e w' ⟨rfl,rfl⟩))
       refine ⟨⟨p+1,k+a,by omega,by go_num,by first | (congr 1;omega) | congr 1,by omega,S2⟩,by simp [intOf];omega⟩
     ·obtain rfl:p=t.length:=by omega
      have g4:=g3.out
      rw [List.take_length] at g4
      by_cases hk0:k=0
      ·subst hk0
       have H:Hid (checkE L t=0):=by show _=_;rw [HC.out,if_pos g4]
       clear g3 g4 HC
       go_wp2
       go_ret
       exact ⟨ret_int H.out.symm,rfl⟩
      ·have H:Hid (checkE L t=23):=by show _=_;rw [HC.out,if_neg (by rw [g4];simp;exact hk0)]
       clear g3 g4 HC
       go_wp2
       go_ret
       exact ⟨ret_int H.out.symm,rfl⟩
theorem wpList_push {w0:World} {ops:Array Oper} {rest:List Oper} {o:Oper} {a:Act} {Q:Exit→Act→World→Prop} (hgd:o.guard=none) (s x:Operand) (t:TypeId)
  (ho:o.op=.call { callee:=.builtin .append,args:=#[s,x],argTypes:=#[t,t] }) (ht:Tryz.prog.underlying t=some (.slice 3))
  (base:Nat) (xs:List Int) (v:Value) (hs:a.eval s=v) (hr:Row base w0 v xs) (y:Int) (hx:a.eval x=.slice (some ⟨w0.heap.size,0,none⟩) 1 1) (hb:base≤w0.heap.size) (hsz:(xs.length+1) * 8≤140737488355328)
  (h:∀ g cap w', Row base w' (.slice (some ⟨g,0,none⟩) (xs.length+1) cap) (xs ++ [y])→Kept (fun k=>v.ownBlock=some k) w0 w' → (v.ownBlock=some g∨w0.heap.size≤g)→wpList Tryz.prog ops Q rest (a.put o.dst (.slice (some ⟨g,0,none⟩) (xs.length+1) cap)) w') :
  wpList Tryz.prog ops Q (o :: rest) a (w0.alloc (.cells #[.int .i64 y] 3)):=by
 obtain ⟨i,hi,hz0,hz1,hz2⟩:=info_parts info_intT
 refine wpList_append_lies _ hgd s x t ho base 3 i (.int .i64 0) 1 8 ht hi hz0 hz1 hz2 rfl (by decide) v xs.length (iv xs) hs (hr.alloc _) ⟨w0.heap.size,0,none⟩ 1 1 [.int .i64 y] hx rfl (cell_one_new _ _ _) (by simp [Value.oneCell']) (by omega) (by unfold maxLen;omega) hsz (by simp;omega) (w0.heap.size+1) (by simp) ?_
 intro g cap w' hown hgrow hat hlt
 refine h g cap w' ?_ ?_ (hat.imp id (fun e=>by omega))
 ·unfold Row;rw [iv_append,List.length_append];exact hown
 ·exact Kept.grown (Kept.alloc (Kept.refl _ w0) _) hgrow (fun _ e _=>e)
theorem Same0.onto {w w0 w' : World} {v:Value} {xs:List Int} (h:Same0 w w0) (hr:Row w.heap.size w0 v xs) (hk:Kept (fun k=>v.ownBlock=some k) w0 w'):Same0 w w' :=
 h.trans hk (fun i hi e=>by have:=(hr.lt i e).1;omega)
set_option maxHeartbeats 4000000 in
theorem rargs_any {n:Nat} {w:World} {rv:Value} {L:List Sym} (h:Rl n w rv L) {ao:Option Addr} {cap:Nat} {t:List Int} (ht:IntsAt w ao t) (hm:t.length≤2000) (hT:IsT L t) (p:Nat) (hp:p<t.length) :
  Calls Tryz.prog 37 #[rv,.slice ao t.length cap,.int .i64 (p:Int)] w fun e w' => ∃ v,e=.returned v∧Row w.heap.size w' v (ofN (argsN L t p))∧Same0 w w' := by
 have H:Hid (argsN L t p=starts L t (arN L t[p]) (p+1)):=argsN_eq hp
 have hf:=(Forest.one hT hp).kids.2
 have har:=arN_le h.2.2.1 t[p]
 have c1:∀ w1,Same0 w w1→Calls Tryz.prog 66 #[rv,.int .i64 t[p]] w1 fun e w' => e=.returned (.int .i64 (arN L t[p]:Int))∧w' = w1:=fun w1 hk=>rarity_any (h.same hk) t[p]
 have c2:∀ w1 q,Same0 w w1→q<t.length→Calls Tryz.prog 67 #[rv,.slice ao t.length cap,.int .i64 (q:Int)] w1 fun e w' => e=.returned (.int .i64 (endN L t q:Int))∧w' = w1:=fun w1 q hk hq=>rend_any (cap:=cap) (h.same hk) (ht.same hk) hm q (by omega)
 have i1:(0:Int)≤(p:Int):=by omega
 have i2:(p:Int)<(t.length:Int):=by omega
 have i0:¬ (p:Int)<0:=by omega
 have i0' : decide ((p:Int)<0)=false:=by simp
 obtain ⟨ro,rcap,rfl⟩:=row_shape h.1
 obtain ⟨tb,off,rfl,htb,hc⟩:=ht.get hp
 have hc' : ∀ w1,Same0 w w1→w1.cell? ⟨tb,off+p,none⟩=some (.int .i64 t[p]):=fun w1 hk=>(hk.cell (p:=⟨tb,off+p,none⟩) htb (fun f=>f)).trans hc
 generalize hA:arN L t[p]=A at *
 have hA:Hid (arN L t[p]=A):=hA
 go_enter Tryz.func37,Tryz.ntmps37
 go_wp2
 go_loopw [7,8,9] (fun out nx i wr=>∃ k:Nat,k≤A∧i=.int .i64 (k:Int)∧nx=.int .i64 (past L t k (p+1):Int)∧Row w.heap.size wr out (ofN (starts L t k (p+1)))∧Same0 w wr) (fun _ _ i _=>A-(intOf i).toNat)
 case atStart=>exact ⟨0,Nat.zero_le _,rfl,rfl,World.ownsRow_nil _ _ _ _,Kept.refl _ _⟩
 case round=>
  obtain ⟨k,hkA,rfl,rfl,hr,hs⟩:=hrel
  have d0:=hc' _ hs
  have cA:=c1 _ hs
  by_cases hlt:k<A
  ·have hfk:=hf.drop (i:=k) (by omega)
   rw [show A-k=(A-k-1)+1 by omega] at hfk
   have hq:past L t k (p+1)<t.length:=by have:=hfk.pos;have:=hfk.le;omega
   have e1:Hid (past L t (k+1) (p+1)=endN L t (past L t k (p+1))):=past_succ L t k (p+1)
   have e2:Hid (ofN (starts L t (k+1) (p+1))=ofN (starts L t k (p+1)) ++ [((past L t k (p+1):Nat):Int)]):=by show _=_;rw [starts_snoc];simp [ofN]
   have hlen:(ofN (starts L t k (p+1))).length=k:=by simp [ofN,starts_length]
   have hlt' : ¬ A≤k:=by omega
   clear hfk c1 hc'
   generalize past L t k (p+1)=P at *
   generalize ofN (starts L t k (p+1))=out at *
   subst hlen
   obtain ⟨oo,ocap,rfl⟩:=row_shape hr
   go_wp2_with (first | (go_at_call 66;refine cA.mono ?_;rintro e w' ⟨rfl,rfl⟩) | (at_builtin;refine wpList_push rfl _ _ 33 rfl Tryz.underlying33 w.heap.size out _ rfl hr (P:Int) rfl hs.size (by omega) ?_;intro g gcap w4 hr4 hk4 _;have hs4:=hs.onto hr hk4) | (go_at_call 67;refine (c2 _ _ hs4 hq).mono ?_;rintro e w' ⟨rfl,rfl⟩))
   rw [← e2.out] at hr4
   go_roundw
   case rel=>first | exact ⟨out.length+1,by omega,by go_num,by rw [e1.out],hr4,hs4⟩ | ((repeat apply Exists.intro);exact ⟨⟨out.length+1,by omega,by go_num,by rw [e1.out],hr4,hs4⟩,rfl⟩)
   case measure=>simp [intOf];omega
  ·obtain rfl:k=A:=by omega
   obtain ⟨oo,ocap,rfl⟩:=row_shape hr
   clear c1 c2 hc'
   go_wp2_with (first | (go_at_call 66;refine cA.mono ?_;rintro e w' ⟨rfl,rfl⟩))
   go_ret
   refine ⟨_,rfl,?_,hs⟩
   rw [H.out];exact hr
end Go.Proofs.YtblgblgchkonhaaGreat
namespace Go.Proofs.YtblgblgchkonhaaGreat
set_option linter.unusedVariables false
open Go.RowKit
attribute [local go_sem ↓] Go.wp_at_zero Go.wp_at_succ
def Over (base g n:Nat) (w wr:World):Prop:=(∃ ys,wr.ownsRow base 3 1 (.slice (some ⟨g,0,none⟩) n n) n ys)∧Kept (fun k=>k=g) w wr
theorem Over.store {base g n:Nat} {w wr:World} (h:Over base g n w wr) (k:Nat) (u:Value):Over base g n w (wr.setCell ⟨g,k,none⟩ u):=by
 obtain ⟨⟨ys,h1⟩,h2⟩:=h
 exact ⟨⟨_,(h1.stored k u).1⟩,h2.setCell (p:=⟨g,k,none⟩) (fun _=>rfl) u⟩
theorem Same0.after {w w5 w6:World} {S:Nat→Prop} (h:Same0 w w5) (k:Kept S w5 w6) (hs:∀ i,i<w.heap.size→¬ S i):Same0 w w6:=
 Kept.trans h k (fun i hi e=>(hs i hi e).elim)
def OverA (base:Nat) (v:Value) (B:Nat→Prop) (n:Nat) (w wr:World):Prop:=∃ zs:List Int,zs.length=n∧Row base wr v zs∧(∀ k,v.ownBlock=some k→B k)∧Kept B w wr
theorem OverA.at {base:Nat} {ao:Option Addr} {cap n:Nat} {B:Nat→Prop} {w wr:World} (h:OverA base (.slice ao n cap) B n w wr) {k:Nat} (hk:k<n):∃ g,ao=some ⟨g,0,none⟩∧∃ old,wr.cell? ⟨g,k,none⟩=some old∧wr.frozen? ⟨g,k,none⟩=false:=by
 obtain ⟨zs,rfl,h1,_,_⟩:=h
 obtain ⟨g,cap', hv,_,_⟩:=h1.form (by omega)
 cases hv
 exact ⟨g,rfl,row_put h1 hk⟩
theorem OverA.store {base g:Nat} {cap n:Nat} {B:Nat→Prop} {w wr:World} (h:OverA base (.slice (some ⟨g,0,none⟩) n cap) B n w wr) (k:Nat) (x:Int):OverA base (.slice (some ⟨g,0,none⟩) n cap) B n w (wr.setCell ⟨g,k,none⟩ (.int .i64 x)):=by
 obtain ⟨zs,rfl,h1,hB,h2⟩:=h
 refine ⟨zs.set k x,by simp,?_,hB,h2.setCell (p:=⟨g,k,none⟩) (fun _=>hB g rfl) _⟩
 have:=(h1.stored k (.int .i64 x)).1
 unfold Row
 rw [List.length_set]
 have e:iv (zs.set k x)=(iv zs).set k (.int .i64 x):=by simp [iv,List.map_set]
 rw [e];exact this
end Go.Proofs.YtblgblgchkonhaaGreat
namespace Go.Proofs.YtblgblgchkonhaaGreat
set_option linter.unusedVariables false
open Go.RowKit Go.Deep
structure Arg (w:World) (ao:Option Addr) (xs:List Int) (cap:Nat):Prop where
 at' : IntsAt w ao xs
 cap' : xs.length≤cap
 nil:ao=none→xs.length=0∧cap=0
 size:xs.length * 8≤140737488351232
section
variable {H : Type} {enc : TypeId × Value → H} {w : World} {spare : Nat → Bool} {held : Bool}
theorem trod_struct5 {P:Program} {base:Nat} {t:TypeId} {f0 f1 f2 f3 f4:Field} {fuel:Nat} {cs:List Value} {x:DataW H × List MemPlace} (ht:P.underlying t=some (.struct #[f0,f1,f2,f3,f4])) (h:DataW.trod enc P w base spare held fuel t cs=some x) :
  ∃ y0 y1 y2 y3 y4 n,x.1=.agg [y0.1,y1.1,y2.1,y3.1,y4.1]∧cs.length=P.cellsOf t∧DataW.trod enc P w base spare held n f0.type ((cs.drop f0.offset).take (P.cellsOf f0.type))=some y0 ∧
   DataW.trod enc P w base spare held n f1.type ((cs.drop f1.offset).take (P.cellsOf f1.type))=some y1∧DataW.trod enc P w base spare held n f2.type ((cs.drop f2.offset).take (P.cellsOf f2.type))=some y2 ∧
   DataW.trod enc P w base spare held n f3.type ((cs.drop f3.offset).take (P.cellsOf f3.type))=some y3∧DataW.trod enc P w base spare held n f4.type ((cs.drop f4.offset).take (P.cellsOf f4.type))=some y4:=by
 obtain ⟨xs,n,_,rfl,hl,hlen,hf⟩:=DataW.trod_struct ht h
 match xs,hlen with
 | [y0,y1,y2,y3,y4],_=>exact ⟨y0,y1,y2,y3,y4,n,by simp,hl,by simpa using hf 0 f0 rfl,by simpa using hf 1 f1 rfl,by simpa using hf 2 f2 rfl,by simpa using hf 3 f3 rfl,by simpa using hf 4 f4 rfl⟩
theorem bytes_int:Tryz.prog.bytesOf 3=8:=by kernel_rfl
theorem open_ints {t fuel:Nat} {cs:List Value} {x:DataW H × List MemPlace} (ht:Tryz.prog.underlying t=some (.slice 3)) (h:DataW.trod enc Tryz.prog w 0 spare held fuel t cs=some x) (hw:∀ n∈x.1.weights Tryz.prog t,n≤reachBytes) :
  ∃ ao cap xs,cs=[.slice ao xs.length cap]∧Arg w ao xs cap:=by
 have h' := h
 rcases open_slice ht h with ⟨hcs,_⟩ | ⟨a,len,cap,m,n,D,Pl,hcs,_,hl,hm,hmm,rfl,hx⟩
 ·exact ⟨none,0,[],hcs,.inl rfl,Nat.le_refl _,fun _=>⟨rfl,rfl⟩,by simp⟩
 ·subst hcs
  have hsz:len * 8≤140737488351232:=by
   have:=hw ((((List.range len).map D).length+((List.range (m-len)).map fun j=>D (len+j)).length) * Tryz.prog.bytesOf 3) (by simp [DataW.weights,ht])
   rw [bytes_int] at this
   simp [reachBytes] at this
   omega
  rcases open_elems ht cells_int (by omega) h' with ⟨e,_,_⟩ | ⟨a', e,hl1,hl2,hall⟩
  ·cases e
  ·cases e
   have each:∀ i,i<len→∃ z:Int,w.cell? ⟨a.block,a.off+i,none⟩=some (.int .i64 z):=by
    intro i hi
    obtain ⟨_,_,cs,n,y,hl,hcell,hy⟩:=hall i hi
    obtain ⟨z,e1,_,_⟩:=DataW.trod_int Tryz.underlying3 hy
    subst e1
    exact ⟨z,by simpa using hcell 0 (by omega)⟩
   obtain ⟨f,hf⟩:=Classical.axiomOfChoice (fun i:Fin len=>each i i.2)
   refine ⟨some a,cap,List.ofFn f,by simp,?_,by simpa using hl,(fun e=>by cases e),by simpa using hsz⟩
   by_cases h0:len=0
   ·subst h0;exact .inl (by simp)
   ·obtain ⟨ea,hlt,_⟩:=hall 0 (by omega)
    refine .inr ⟨a.block,a.off,by rw [← ea],hlt,fun i hi=>?_⟩
    have hi' : i<len:=by simpa using hi
    simpa using hf ⟨i,hi'⟩
theorem slice_one {t e fuel:Nat} {c:Value} {x:DataW H × List MemPlace} (ht:Tryz.prog.underlying t=some (.slice e)) (h:DataW.trod enc Tryz.prog w 0 spare held fuel t [c]=some x):∃ ao len cap,c=.slice ao len cap:=by
 rcases open_slice ht h with ⟨hcs,_⟩ | ⟨a,len,cap,m,n,D,Pl,hcs,_⟩
 ·simp at hcs;exact ⟨_,_,_,hcs⟩
 ·simp at hcs;exact ⟨_,_,_,hcs⟩
structure CaseIs (w:World) (v:Value) (lo:Option Addr) (ll lc:Nat) (ls:List Sym) (so:Option Addr) (tc:Nat) (t:List Int) (at' : Int) (uo:Option Addr) (uc:Nat) (u:List Int) (po:Option Addr) (pc:Nat) (path:List Int):Prop where
 eq:v=.agg #[.slice lo ll lc,.slice so t.length tc,.int .i64 at', .slice uo u.length uc,.slice po path.length pc]
 syms:SymsAt w lo ll ls
 sl:ll≤maxLen
 t' : Arg w so t tc
 u' : Arg w uo u uc
 p' : Arg w po path pc
end
end Go.Proofs.YtblgblgchkonhaaGreat
namespace Go.Proofs.YtblgblgchkonhaaGreat
set_option linter.unusedVariables false
open Go.RowKit
attribute [local go_sem ↓] Go.wp_at_zero Go.wp_at_succ
theorem wpList_more {w0:World} {ops:Array Oper} {rest:List Oper} {o:Oper} {a:Act} {Q:Exit→Act→World→Prop} (hgd:o.guard=none) (s x:Operand) (t:TypeId)
  (ho:o.op=.call { callee:=.builtin .append,args:=#[s,x],argTypes:=#[t,t] }) (ht:Tryz.prog.underlying t=some (.slice 3))
  (base:Nat) (xs:List Int) (v:Value) (hs:a.eval s=v) (hr:Row base w0 v xs) (ys:List Int) (ad:Addr) (m c:Nat) (hx:a.eval x=.slice (some ad) m c) (hm:m=ys.length) (hy:IntsAt w0 (some ad) ys) (hb:base≤w0.heap.size) (hsz:(xs.length+ys.length) * 8≤140737488355328)
  (h:∀ v' w', Row base w' v' (xs++ys)→Kept (fun k=>v.ownBlock=some k) w0 w' → wpList Tryz.prog ops Q rest (a.put o.dst v') w') :
  wpList Tryz.prog ops Q (o :: rest) a w0:=by
 subst hm
 obtain ⟨i,hi,hz0,hz1,hz2⟩:=info_parts info_intT
 refine wpList_append_own _ hgd s x t ho base 3 i (.int .i64 0) 1 8 ht hi hz0 hz1 hz2 rfl (by decide) v xs.length (iv xs) hs hr ad ys.length c (iv ys) hx (by rw [iv_length];omega) (fun j u hj=>?_) (iv_oneCell ys) (by unfold maxLen;omega) hsz hb ?_
 ·obtain ⟨ad', e,hc⟩:=hy.src (by have:=(List.getElem?_eq_some_iff.1 hj).1;omega)
  cases e
  exact hc j u hj
 ·intro v' w' hown hgrow _
  refine h v' w' ?_ (Kept.grown (Kept.refl _ w0) hgrow (fun _ e _=>e))
  unfold Row;rw [iv_append,List.length_append];exact hown
theorem row_empty (w:World) (base:Nat) (hb:base≤w.heap.size) {o:Obj} (ho:o=.cells #[] 3 (0,0)):Row base (w.alloc o) (.slice (some ⟨w.heap.size,0,none⟩) 0 0) []:=by
 subst ho
 exact ⟨rfl,.inr ⟨w.heap.size,0, #[],rfl,hb,heap_alloc_new w _,Nat.le_refl _,by unfold maxLen;omega,rfl,rfl⟩⟩
end Go.Proofs.YtblgblgchkonhaaGreat
namespace Go.Proofs.YtblgblgchkonhaaGreat
set_option maxRecDepth 100000
set_option linter.unusedVariables false
open Go.RowKit
attribute [local go_sem ↓] Go.wp_at_zero Go.wp_at_succ
def ArgT (w:World) (ao:Option Addr) (xs:List Int) (cap:Nat):Prop:=Arg w ao xs cap∧∀ a,ao=some a→∃ cur,w.heap[a.block]? = some (.cells cur 3 (0,0))
theorem ArgT.kept {w w' : World} {ao:Option Addr} {xs:List Int} {cap:Nat} {S:Nat→Prop} (h:ArgT w ao xs cap) (hk:Kept S w w') (hS:∀ k,S k→∀ cur,w.heap[k]? ≠ some (.cells cur 3 (0,0))):ArgT w' ao xs cap:=by
 have ne:∀ a,ao=some a→¬ S a.block:=fun a e s=>by
  obtain ⟨cur,hc⟩:=h.2 a e
  exact hS _ s cur hc
 refine ⟨⟨h.1.at'.kept hk ne,h.1.cap', h.1.nil,h.1.size⟩,fun a e=>?_⟩
 obtain ⟨cur,hc⟩:=h.2 a e
 exact ⟨cur,hk.at hc (ne a e)⟩
theorem ArgT.same {w w' : World} {ao:Option Addr} {xs:List Int} {cap:Nat} (h:ArgT w ao xs cap) (hk:Same0 w w'):ArgT w' ao xs cap:=h.kept hk (fun _ f=>f.elim)
theorem Row.arg {base:Nat} {w:World} {v:Value} {xs:List Int} (h:Row base w v xs) (hl:xs.length≤100000):∃ ao ac,v=.slice ao xs.length ac∧ArgT w ao xs ac∧∀ a,ao=some a→base≤a.block:=by
 obtain ⟨ao,ac,e,h1,h2,h3⟩:=h.ints
 rcases h.2 with ⟨e2,h0⟩ | ⟨g,cap,cur,e2,hb,hg,hle,_⟩
 ·rw [e] at e2
  simp only [Value.slice.injEq] at e2
  obtain ⟨rfl,_,rfl⟩:=e2
  exact ⟨none,0,e,⟨⟨h1,by omega,fun _=>⟨h0,rfl⟩,by omega⟩,fun a e=>by cases e⟩,fun a e=>by cases e⟩
 ·rw [e] at e2
  simp only [Value.slice.injEq] at e2
  obtain ⟨rfl,_,rfl⟩:=e2
  exact ⟨_,ac,e,⟨⟨h1,hle,(fun e=>by cases e),by omega⟩,fun a e=>by cases e;exact ⟨cur,hg⟩⟩,fun a e=>by cases e;exact hb⟩
theorem eqnilI (w:World) (a:Option Addr) (n c n' c' : Nat):(binOp .eql 33 (.slice a n c) (.slice none n' c')).run Tryz.prog w=.ok (.bool a.isNone) w:=Lib.run_eql_slice_nil w _ _ a n c n' c' Tryz.underlying33
set_option maxHeartbeats 1000000 in
theorem cloneI_any {w:World} {ao:Option Addr} {cap:Nat} {xs:List Int} (hx:Arg w ao xs cap) :
  Calls Tryz.prog 74 #[.slice ao xs.length cap] w fun e w' => ∃ v,e=.returned v∧Row w.heap.size w' v xs∧Same0 w w' := by
 have hnil:=eqnilI
 have hsz:=hx.size
 cases ao with
 | none=>
  obtain ⟨h0,rfl⟩:=hx.nil rfl
  obtain rfl:xs=[]:=List.eq_nil_of_length_eq_zero h0
  go_enter Tryz.func74,Tryz.ntmps74
  go_wp2
  go_ret
  exact ⟨_,rfl,World.ownsRow_nil _ _ _ _,Kept.refl _ _⟩
 | some ad=>
  have k0:Same0 w (w.alloc (.cells #[] 3)):=(Kept.refl _ w).alloc _
  have r0:Row w.heap.size (w.alloc (.cells #[] 3)) (.slice (some ⟨w.heap.size,0,none⟩) 0 0) []:=row_empty w _ (Nat.le_refl _) rfl
  have cI:=hx.at'.same k0
  have z0:=k0.size
  clear hx
  go_enter Tryz.func74,Tryz.ntmps74
  go_wp2_with (first | (at_builtin;refine wpList_more rfl _ _ 33 rfl Tryz.underlying33 w.heap.size [] _ rfl r0 xs _ _ _ rfl rfl cI z0 (by simp;omega) ?_;intro v' w4 hr4 hk4))
  go_ret
  exact ⟨_,rfl,by simpa using hr4,k0.onto r0 hk4⟩
end Go.Proofs.YtblgblgchkonhaaGreat
namespace Go.Proofs.YtblgblgchkonhaaGreat
set_option maxRecDepth 100000
set_option linter.unusedVariables false
open Go.RowKit
def mayB (n:Nat) (x:Nd):Bool:=
 decide (0≤x.1) && decide (x.2.1.length≤6) && decide (0≤x.2.2.1) && decide (x.2.2.1≤2) && x.2.1.all (fun z=>decide (0≤z) && decide (z<(n:Int))) &&
  (if x.2.2.2.1=true then decide (0≤x.2.2.2.2) && decide (x.2.2.2.2<(n:Int)) && decide (x.1=0) && decide (x.2.2.1=0) && decide (x.2.1.length=0) else decide (x.2.2.2.2=0))
theorem may_facts {n:Nat} {x:Nd} (h:mayB n x=true):0≤x.1∧x.2.1.length≤6∧0≤x.2.2.1∧x.2.2.1≤2∧(∀ z∈x.2.1,0≤z∧z<(n:Int))∧(x.2.2.2.1=true→0≤x.2.2.2.2∧x.2.2.2.2<(n:Int)∧x.1=0∧x.2.2.1=0∧x.2.1=[])∧(x.2.2.2.1=false→x.2.2.2.2=0):=by
 unfold mayB at h
 cases hp:x.2.2.2.1
 ·simp [hp] at h
  refine ⟨h.1.1.1.1.1,h.1.1.1.1.2,h.1.1.1.2,h.1.1.2,h.1.2,by simp,fun _=>h.2⟩
 ·simp [hp] at h
  refine ⟨h.1.1.1.1.1,h.1.1.1.1.2,h.1.1.1.2,h.1.1.2,h.1.2,fun _=>⟨h.2.1.1.1.1,h.2.1.1.1.2,h.2.1.1.2,h.2.1.2,h.2.2⟩,by simp⟩
theorem may_down {n:Nat} {x:Nd} (h:mayB n x=true):∀ z∈downL x,0≤z∧z<(n:Int):=by
 obtain ⟨_,_,_,_,h5,h6,_⟩:=may_facts h
 intro z hz
 unfold downL at hz
 split at hz
 ·rename_i hp
  simp at hz
  subst hz
  exact ⟨(h6 hp).1,(h6 hp).2.1⟩
 ·exact h5 z hz
theorem may_more {n m:Nat} {x:Nd} (h:mayB n x=true) (hn:n≤m):mayB m x=true:=by
 obtain ⟨h1,h2,h3,h4,h5,h6,h7⟩:=may_facts h
 unfold mayB
 have h8:x.2.1.all (fun z=>decide (0≤z) && decide (z<(m:Int)))=true:=by
  rw [List.all_eq_true]
  intro z hz
  have:=h5 z hz
  simp;omega
 cases hp:x.2.2.2.1
 ·simp [h1,h2,h3,h4,h8,h7 hp]
 ·obtain ⟨a,b,c,d,e⟩:=h6 hp
  simp [a,c,d,e]
  omega
theorem inl_of_may {l:List Nd} (h:∀ x∈l,mayB l.length x=true):InL l:=fun i hi z hz=>may_down (h _ (List.getElem_mem hi)) z hz
def NdC (B:Nat→Prop) (w:World) (b off:Nat) (x:Nd):Prop:=
 ∃ ao ac,w.cell? ⟨b,off,none⟩=some (.int .i64 x.1)∧w.cell? ⟨b,off+1,none⟩=some (.slice ao x.2.1.length ac)∧w.cell? ⟨b,off+2,none⟩=some (.int .i64 x.2.2.1)∧w.cell? ⟨b,off+3,none⟩=some (.bool x.2.2.2.1)∧w.cell? ⟨b,off+4,none⟩=some (.int .i64 x.2.2.2.2)∧ArgT w ao x.2.1 ac∧∀ a,ao=some a→B a.block
def NotI (w:World) (k:Nat):Prop:=∀ cur,w.heap[k]? ≠ some (.cells cur 3 (0,0))
theorem ArgT.kept' {w w' : World} {ao:Option Addr} {xs:List Int} {cap:Nat} {S:Nat→Prop} (h:ArgT w ao xs cap) (hk:Kept S w w') (hS:∀ a,ao=some a→¬ S a.block):ArgT w' ao xs cap:=by
 refine ⟨⟨h.1.at'.kept hk hS,h.1.cap', h.1.nil,h.1.size⟩,fun a e=>?_⟩
 obtain ⟨cur,hc⟩:=h.2 a e
 exact ⟨cur,hk.at hc (hS a e)⟩
theorem ArgT.lt {w:World} {ao:Option Addr} {xs:List Int} {cap:Nat} (h:ArgT w ao xs cap) {a:Addr} (e:ao=some a):a.block<w.heap.size:=by
 obtain ⟨cur,hc⟩:=h.2 a e
 exact lt_of_at hc
theorem NdC.kept {B S:Nat→Prop} {w w' : World} {b off:Nat} {x:Nd} (h:NdC B w b off x) (hb:b<w.heap.size) (hk:Kept S w w') (nb:¬ S b) (hS:∀ k,B k→S k→NotI w k):NdC B w' b off x:=by
 obtain ⟨ao,ac,h0,h1,h2,h3,h4,h5,h6⟩:=h
 have t:∀ o,w'.cell? ⟨b,o,none⟩=w.cell? ⟨b,o,none⟩:=fun o=>hk.cell (p:=⟨b,o,none⟩) hb nb
 refine ⟨ao,ac,(t _).trans h0,(t _).trans h1,(t _).trans h2,(t _).trans h3,(t _).trans h4,h5.kept' hk (fun a e s=>?_),h6⟩
 obtain ⟨cur,hc⟩:=h5.2 a e
 exact hS _ (h6 a e) s cur hc
theorem NdC.mono {B B' : Nat→Prop} {w:World} {b off:Nat} {x:Nd} (h:NdC B w b off x) (hB:∀ k,k<w.heap.size→(∃ cur,w.heap[k]? = some (.cells cur 3 (0,0)))→B k→B' k):NdC B' w b off x:=by
 obtain ⟨ao,ac,h0,h1,h2,h3,h4,h5,h6⟩:=h
 exact ⟨ao,ac,h0,h1,h2,h3,h4,h5,fun a e=>hB _ (h5.lt e) (h5.2 a e) (h6 a e)⟩
structure HpB (B:Nat→Prop) (w:World) (h g room:Nat) (l:List Nd):Prop where
 box:w.heap[h]? = some (.cells #[.slice (some ⟨g,0,none⟩) room room,.int .i64 (l.length:Int)] 119 (0,0))
 blk:∃ cs,w.heap[g]? = some (.cells cs 76 (0,0))∧cs.size=room * 5
 rm1:1≤room
 rm2:room≤4000
 le:l.length≤room
 each:∀ i (hi:i<l.length),NdC B w g (i * 5) l[i]
 may:∀ x∈l,mayB l.length x=true
 ac:Ac l
theorem HpB.inl {B:Nat→Prop} {w:World} {h g room:Nat} {l:List Nd} (p:HpB B w h g room l):InL l:=inl_of_may p.may
theorem HpB.ne {B:Nat→Prop} {w:World} {h g room:Nat} {l:List Nd} (p:HpB B w h g room l):h≠g:=fun e=>by
 obtain ⟨cs,h1,_⟩:=p.blk
 rw [← e,p.box] at h1
 cases h1
theorem HpB.ltH {B:Nat→Prop} {w:World} {h g room:Nat} {l:List Nd} (p:HpB B w h g room l):h<w.heap.size:=lt_of_at p.box
theorem HpB.ltG {B:Nat→Prop} {w:World} {h g room:Nat} {l:List Nd} (p:HpB B w h g room l):g<w.heap.size:=by
 obtain ⟨cs,h1,_⟩:=p.blk
 exact lt_of_at h1
theorem HpB.kept {B S:Nat→Prop} {w w' : World} {h g room:Nat} {l:List Nd} (p:HpB B w h g room l) (hk:Kept S w w') (n1:¬ S h) (n2:¬ S g) (hS:∀ k,B k→S k→NotI w k):HpB B w' h g room l:=by
 refine ⟨hk.at p.box n1,?_,p.rm1,p.rm2,p.le,fun i hi=>(p.each i hi).kept p.ltG hk n2 hS,p.may,p.ac⟩
 obtain ⟨cs,h1,h2⟩:=p.blk
 exact ⟨cs,hk.at h1 n2,h2⟩
theorem HpB.same {B:Nat→Prop} {w w' : World} {h g room:Nat} {l:List Nd} (p:HpB B w h g room l) (hk:Same0 w w'):HpB B w' h g room l:=p.kept hk (fun f=>f) (fun f=>f) (fun _ _ f=>f.elim)
theorem HpB.mono {B B' : Nat→Prop} {w:World} {h g room:Nat} {l:List Nd} (p:HpB B w h g room l) (hB:∀ k,k<w.heap.size→(∃ cur,w.heap[k]? = some (.cells cur 3 (0,0)))→B k→B' k):HpB B' w h g room l:=
 ⟨p.box,p.blk,p.rm1,p.rm2,p.le,fun i hi=>(p.each i hi).mono hB,p.may,p.ac⟩
theorem HpB.cells {B:Nat→Prop} {w:World} {h g room:Nat} {l:List Nd} (p:HpB B w h g room l):w.cell? ⟨h,0,none⟩=some (.slice (some ⟨g,0,none⟩) room room)∧w.cell? ⟨h,1,none⟩=some (.int .i64 (l.length:Int)):=⟨cellAt p.box 0,cellAt p.box 1⟩
theorem HpB.free {B:Nat→Prop} {w:World} {h g room:Nat} {l:List Nd} (p:HpB B w h g room l):(∀ o,w.frozen? ⟨h,o,none⟩=false)∧∀ o,w.frozen? ⟨g,o,none⟩=false:=by
 obtain ⟨cs,h1,_⟩:=p.blk
 exact ⟨fun o=>frozenAt p.box o,fun o=>frozenAt h1 o⟩
theorem HpB.there {B:Nat→Prop} {w:World} {h g room:Nat} {l:List Nd} (p:HpB B w h g room l) {i:Nat} (hi:i<room):∃ u0 u1 u2 u3 u4,w.cell? ⟨g,i * 5,none⟩=some u0∧w.cell? ⟨g,i * 5+1,none⟩=some u1∧w.cell? ⟨g,i * 5+2,none⟩=some u2∧w.cell? ⟨g,i * 5+3,none⟩=some u3∧w.cell? ⟨g,i * 5+4,none⟩=some u4:=by
 obtain ⟨cs,h1,h2⟩:=p.blk
 have t:∀ o,o<cs.size→w.cell? ⟨g,o,none⟩=some cs[o]! := fun o ho=>by rw [cellAt h1];simp [ho]
 exact ⟨_,_,_,_,_,t _ (by omega),t _ (by omega),t _ (by omega),t _ (by omega),t _ (by omega)⟩
theorem box5 {w:World} {b:Nat} {v0 v1 v2 v3 v4:Value} {t:TypeId} (h:w.heap[b]? = some (.cells #[v0,v1,v2,v3,v4] t (0,0))):w.cell? ⟨b,0,none⟩=some v0∧w.cell? ⟨b,1,none⟩=some v1∧w.cell? ⟨b,2,none⟩=some v2∧w.cell? ⟨b,3,none⟩=some v3∧w.cell? ⟨b,4,none⟩=some v4:=
 ⟨cellAt h 0,cellAt h 1,cellAt h 2,cellAt h 3,cellAt h 4⟩
theorem free5 {w:World} {b:Nat} {cs:Array Value} {t:TypeId} (h:w.heap[b]? = some (.cells cs t (0,0))):w.frozen? ⟨b,0,none⟩=false∧w.frozen? ⟨b,1,none⟩=false∧w.frozen? ⟨b,2,none⟩=false∧w.frozen? ⟨b,3,none⟩=false∧w.frozen? ⟨b,4,none⟩=false:=
 ⟨frozenAt h 0,frozenAt h 1,frozenAt h 2,frozenAt h 3,frozenAt h 4⟩
def put5 (w:World) (g off:Nat) (v0 v1 v2 v3 v4:Value):World:=
 ((((w.setCell ⟨g,off,none⟩ v0).setCell ⟨g,off+1,none⟩ v1).setCell ⟨g,off+2,none⟩ v2).setCell ⟨g,off+3,none⟩ v3).setCell ⟨g,off+4,none⟩ v4
theorem put5_at {w:World} {g off:Nat} {v0 v1 v2 v3 v4:Value} {cs:Array Value} {t:TypeId} {fr:Nat × Nat} (h:w.heap[g]? = some (.cells cs t fr)):(put5 w g off v0 v1 v2 v3 v4).heap[g]? = some (.cells (((((cs.setIfInBounds off v0).setIfInBounds (off+1) v1).setIfInBounds (off+2) v2).setIfInBounds (off+3) v3).setIfInBounds (off+4) v4) t fr):=
 setAt (setAt (setAt (setAt (setAt h _ _) _ _) _ _) _ _) _ _
theorem put5_kept (w:World) (g off:Nat) (v0 v1 v2 v3 v4:Value):Kept (fun k=>k=g) w (put5 w g off v0 v1 v2 v3 v4):=by
 have t:∀ (w' : World) (o:Nat) (v:Value),Kept (fun k=>k=g) w w' → Kept (fun k=>k=g) w (w'.setCell ⟨g,o,none⟩ v):=fun w' o v h=>Kept.setCell (S:=fun k=>k=g) h (p:=⟨g,o,none⟩) (fun _=>rfl) v
 exact t _ _ _ (t _ _ _ (t _ _ _ (t _ _ _ (t _ _ _ (Kept.refl _ w)))))
theorem put5_new {w:World} {g off:Nat} {v0 v1 v2 v3 v4:Value} {cs:Array Value} {t:TypeId} {fr:Nat × Nat} (h:w.heap[g]? = some (.cells cs t fr)) (hs:off+5≤cs.size):(put5 w g off v0 v1 v2 v3 v4).cell? ⟨g,off,none⟩=some v0∧(put5 w g off v0 v1 v2 v3 v4).cell? ⟨g,off+1,none⟩=some v1∧(put5 w g off v0 v1 v2 v3 v4).cell? ⟨g,off+2,none⟩=some v2∧(put5 w g off v0 v1 v2 v3 v4).cell? ⟨g,off+3,none⟩=some v3∧(put5 w g off v0 v1 v2 v3 v4).cell? ⟨g,off+4,none⟩=some v4:=by
 have q:=put5_at (v0:=v0) (v1:=v1) (v2:=v2) (v3:=v3) (v4:=v4) (off:=off) h
 refine ⟨?_,?_,?_,?_,?_⟩ <;> rw [cellAt q] <;> simp [Array.getElem?_setIfInBounds] <;> omega
theorem put5_old {w:World} {g off:Nat} {v0 v1 v2 v3 v4:Value} {cs:Array Value} {t:TypeId} {fr:Nat × Nat} (h:w.heap[g]? = some (.cells cs t fr)) {o:Nat} (ho:o<off∨off+5≤o):(put5 w g off v0 v1 v2 v3 v4).cell? ⟨g,o,none⟩=w.cell? ⟨g,o,none⟩:=by
 have q:=put5_at (v0:=v0) (v1:=v1) (v2:=v2) (v3:=v3) (v4:=v4) (off:=off) h
 rw [cellAt q,cellAt h,Array.getElem?_setIfInBounds,if_neg (by omega),Array.getElem?_setIfInBounds,if_neg (by omega),Array.getElem?_setIfInBounds,if_neg (by omega),Array.getElem?_setIfInBounds,if_neg (by omega),Array.getElem?_setIfInBounds,if_neg (by omega)]
theorem put5_nodes {B B' : Nat→Prop} {w:World} {g room:Nat} {l:List Nd} (hb:∃ cs,w.heap[g]? = some (.cells cs 76 (0,0))∧cs.size=room * 5) (hc:∀ i (hi:i<l.length),NdC B w g (i * 5) l[i]) {i:Nat} (hi:i<room) {x:Nd} {ao:Option Addr} {ac:Nat} (ha:ArgT w ao x.2.1 ac) (hB:∀ a,ao=some a→B' a.block) (hBB:∀ k,B k→B' k) :
  let w' := put5 w g (i * 5) (.int .i64 x.1) (.slice ao x.2.1.length ac) (.int .i64 x.2.2.1) (.bool x.2.2.2.1) (.int .i64 x.2.2.2.2)
  NdC B' w' g (i * 5) x∧(∃ cs,w'.heap[g]? = some (.cells cs 76 (0,0))∧cs.size=room * 5)∧∀ j (hj:j<l.length),j≠i→NdC B' w' g (j * 5) l[j]:=by
 obtain ⟨cs,h1,h2⟩:=hb
 have hk:=put5_kept w g (i * 5) (.int .i64 x.1) (.slice ao x.2.1.length ac) (.int .i64 x.2.2.1) (.bool x.2.2.2.1) (.int .i64 x.2.2.2.2)
 have gi:∀ k,k=g→NotI w k:=fun k e cur h=>by rw [e,h1] at h;cases h
 have ka:∀ {ao:Option Addr} {xs:List Int} {ac:Nat},ArgT w ao xs ac→ArgT (put5 w g (i * 5) (.int .i64 x.1) (.slice ao x.2.1.length ac) (.int .i64 x.2.2.1) (.bool x.2.2.2.1) (.int .i64 x.2.2.2.2)) ao xs ac:=fun h=>h.kept (put5_kept _ _ _ _ _ _ _ _) (fun k e=>gi k e)
 refine ⟨?_,?_,fun j hj hne=>?_⟩
 ·obtain ⟨q0,q1,q2,q3,q4⟩:=put5_new (v0:=.int .i64 x.1) (v1:=.slice ao x.2.1.length ac) (v2:=.int .i64 x.2.2.1) (v3:=.bool x.2.2.2.1) (v4:=.int .i64 x.2.2.2.2) h1 (show i * 5+5≤cs.size by omega)
  exact ⟨ao,ac,q0,q1,q2,q3,q4,ha.kept hk gi,hB⟩
 ·exact ⟨_,put5_at h1,by simpa using h2⟩
 ·obtain ⟨bo,bc,q0,q1,q2,q3,q4,q5,q6⟩:=hc j hj
  have t:=fun {o:Nat} (ho:o<i * 5∨i * 5+5≤o)=>put5_old (v0:=.int .i64 x.1) (v1:=.slice ao x.2.1.length ac) (v2:=.int .i64 x.2.2.1) (v3:=.bool x.2.2.2.1) (v4:=.int .i64 x.2.2.2.2) h1 ho
  exact ⟨bo,bc,(t (by omega)).trans q0,(t (by omega)).trans q1,(t (by omega)).trans q2,(t (by omega)).trans q3,(t (by omega)).trans q4,q5.kept hk gi,fun a e=>hBB _ (q6 a e)⟩
end Go.Proofs.YtblgblgchkonhaaGreat
namespace Go.Proofs.YtblgblgchkonhaaGreat
set_option maxRecDepth 100000
set_option linter.unusedVariables false
open Go.RowKit
attribute [local go_sem ↓] Go.wp_at_zero Go.wp_at_succ
def insB (n:Int) (xs:List Int):Bool:=xs.all (fun z=>decide (0≤z) && decide (z<n))
theorem insB_iff {n:Int} {xs:List Int}:insB n xs=true ↔ ∀ z∈xs,0≤z∧z<n:=by
 unfold insB;simp [List.all_eq_true]
theorem insB_no {n:Int} {xs:List Int} {k:Nat} (hk:k<xs.length) (h:¬ (0≤xs[k]∧xs[k]<n)):insB n xs=false:=by
 cases e:insB n xs
 ·rfl
 ·exact absurd (insB_iff.1 e _ (List.getElem_mem hk)) h
set_option maxHeartbeats 1000000 in
theorem inside_any {w:World} {ao:Option Addr} {xs:List Int} (cap:Nat) (hx:IntsAt w ao xs) (hm:xs.length≤1000) (n:Int) :
  Calls Tryz.prog 48 #[.int .i64 n,.slice ao xs.length cap] w fun e w' => e=.returned (.bool (insB n xs))∧w' = w:=by
 have H1:Hid (∀ k (hk:k<xs.length),¬ (0≤xs[k]∧xs[k]<n)→insB n xs=false):=fun k hk h=>insB_no hk h
 go_enter Tryz.func48,Tryz.ntmps48
 go_wp2
 go_loop [9] (fun i=>∃ k:Nat,k≤xs.length∧i=.int .i64 k∧Hid (∀ j (hj:j<xs.length),j<k→0≤xs[j]∧xs[j]<n)) (fun i=>xs.length-(intOf i).toNat)
 case atStart=>exact ⟨0,Nat.zero_le _,rfl,fun j _ hj=>absurd hj (Nat.not_lt_zero _)⟩
 case round=>
  obtain ⟨k,hk,rfl,hall⟩:=hrel
  by_cases hlt:k<xs.length
  ·obtain ⟨b,off,rfl,hb,hc⟩:=hx.get hlt
   have i1:(0:Int)≤(k:Int):=by omega
   have i2:(k:Int)<(xs.length:Int):=by omega
   clear hx
   by_cases h1:xs[k]<0
   ·have H2:Hid (insB n xs=false):=H1.out k hlt (by omega)
    clear H1
    go_wp2
    go_ret
    exact ⟨ret_bool H2.out.symm,rfl⟩
   ·by_cases h2:n≤xs[k]
    ·have H2:Hid (insB n xs=false):=H1.out k hlt (by omega)
     clear H1
     go_wp2
     go_ret
     exact ⟨ret_bool H2.out.symm,rfl⟩
    ·go_wp2
     go_round
     case rel=>exact ⟨k+1,by omega,by go_num,fun j hj hjk=>by
      by_cases e:j=k
      ·subst e;omega
      ·exact hall.out j hj (by omega)⟩
     case measure=>simp [intOf];omega
  ·obtain rfl:k=xs.length:=by omega
   have H2:Hid (insB n xs=true):=insB_iff.2 (fun z hz=>by
    obtain ⟨j,hj,rfl⟩:=List.mem_iff_getElem.1 hz
    exact hall.out j hj hj)
   clear hall H1
   go_wp2
   go_ret
   exact ⟨ret_bool H2.out.symm,rfl⟩
def refE (n:Int) (xs:List Int):Int:=if insB n xs=true then 0 else 112
set_option maxHeartbeats 1000000 in
theorem refusal_hp {B:Nat→Prop} {w:World} {h g room:Nat} {l:List Nd} (p:HpB B w h g room l) {ao:Option Addr} {xs:List Int} (cap:Nat) (hx:IntsAt w ao xs) (hm:xs.length≤1000) :
  Calls Tryz.prog 50 #[.pointer (some ⟨h,0,none⟩),.slice ao xs.length cap] w fun e w' => e=.returned (.int .i64 (refE (l.length:Int) xs))∧w' = w:=by
 have C:=inside_any cap hx hm (l.length:Int)
 obtain ⟨c0,c1⟩:=p.cells
 clear p hx
 cases hi:insB (l.length:Int) xs
 ·have H:Hid (refE (l.length:Int) xs=112):=by show _=_;rw [refE,hi];rfl
  rw [hi] at C
  go_enter Tryz.func50,Tryz.ntmps50
  go_wp2_with (first | (go_at_call 48;refine C.mono ?_;rintro e w' ⟨rfl,rfl⟩))
  go_ret
  exact ⟨ret_int H.out.symm,rfl⟩
 ·have H:Hid (refE (l.length:Int) xs=0):=by show _=_;rw [refE,hi];rfl
  rw [hi] at C
  go_enter Tryz.func50,Tryz.ntmps50
  go_wp2_with (first | (go_at_call 48;refine C.mono ?_;rintro e w' ⟨rfl,rfl⟩))
  go_ret
  exact ⟨ret_int H.out.symm,rfl⟩
theorem set6_kept (w:World) (a b:Nat) (v v0 v1 v2 v3 v4:Value):Kept (fun k=>k=a∨k=b) w (put5 (w.setCell ⟨a,1,none⟩ v) b 0 v0 v1 v2 v3 v4):=
 (Kept.setCell (S:=fun k=>k=a∨k=b) (Kept.refl _ w) (p:=⟨a,1,none⟩) (fun _=>.inl rfl) v).trans (put5_kept _ _ _ _ _ _ _ _) (fun _ _ e=>.inr e)
abbrev nodeV (x:Nd) (ao:Option Addr) (ac:Nat):Value:=.agg #[.int .i64 x.1,.slice ao x.2.1.length ac,.int .i64 x.2.2.1,.bool x.2.2.2.1,.int .i64 x.2.2.2.2]
set_option maxHeartbeats 1000000 in
theorem copied_any {w:World} {x:Nd} {ao:Option Addr} {ac:Nat} (hx:Arg w ao x.2.1 ac) (hm:x.2.1.length≤1000) :
  Calls Tryz.prog 49 #[nodeV x ao ac] w fun e w' => ∃ bo bc,e=.returned (nodeV x bo bc)∧ArgT w' bo x.2.1 bc∧(∀ a,bo=some a→w.heap.size≤a.block)∧Same0 w w' := by
 have k1:Same0 w (w.alloc (.cells #[.int .i64 x.1,.slice ao x.2.1.length ac,.int .i64 x.2.2.1,.bool x.2.2.2.1,.int .i64 x.2.2.2.2] 76)):=(Kept.refl _ w).alloc _
 have k2:Same0 w ((w.alloc (.cells #[.int .i64 x.1,.slice ao x.2.1.length ac,.int .i64 x.2.2.1,.bool x.2.2.2.1,.int .i64 x.2.2.2.2] 76)).alloc (.cells #[.int .i64 0,.slice none 0 0,.int .i64 0,.bool false,.int .i64 0] 76)):=k1.alloc _
 have C:=cloneI_any (cap:=ac) (show Arg _ ao x.2.1 ac from ⟨hx.at'.same k2,hx.cap', hx.nil,hx.size⟩)
 simp only [World.size_alloc] at C
 have hb1:((w.alloc (.cells #[.int .i64 x.1,.slice ao x.2.1.length ac,.int .i64 x.2.2.1,.bool x.2.2.2.1,.int .i64 x.2.2.2.2] 76)).alloc (.cells #[.int .i64 0,.slice none 0 0,.int .i64 0,.bool false,.int .i64 0] 76)).heap[w.heap.size]? = some (.cells #[.int .i64 x.1,.slice ao x.2.1.length ac,.int .i64 x.2.2.1,.bool x.2.2.2.1,.int .i64 x.2.2.2.2] 76 (0,0)):=(Below.heap_alloc _ _ _ (by simp)).trans (heap_alloc_new w _)
 have hb2:=heap_alloc_new (w.alloc (.cells #[.int .i64 x.1,.slice ao x.2.1.length ac,.int .i64 x.2.2.1,.bool x.2.2.2.1,.int .i64 x.2.2.2.2] 76)) (.cells #[.int .i64 0,.slice none 0 0,.int .i64 0,.bool false,.int .i64 0] 76)
 have HB:Hid (∀ ww,Same0 ((w.alloc (.cells #[.int .i64 x.1,.slice ao x.2.1.length ac,.int .i64 x.2.2.1,.bool x.2.2.2.1,.int .i64 x.2.2.2.2] 76)).alloc (.cells #[.int .i64 0,.slice none 0 0,.int .i64 0,.bool false,.int .i64 0] 76)) ww→ww.heap[w.heap.size]? = some (.cells #[.int .i64 x.1,.slice ao x.2.1.length ac,.int .i64 x.2.2.1,.bool x.2.2.2.1,.int .i64 x.2.2.2.2] 76 (0,0))∧ww.heap[w.heap.size+1]? = some (.cells #[.int .i64 0,.slice none 0 0,.int .i64 0,.bool false,.int .i64 0] 76 (0,0))):=fun ww hk=>⟨hk.at0 hb1,by have:=hk.at0 hb2;simpa using this⟩
 have HK:Hid (∀ ww,Same0 ((w.alloc (.cells #[.int .i64 x.1,.slice ao x.2.1.length ac,.int .i64 x.2.2.1,.bool x.2.2.2.1,.int .i64 x.2.2.2.2] 76)).alloc (.cells #[.int .i64 0,.slice none 0 0,.int .i64 0,.bool false,.int .i64 0] 76)) ww→Same0 w ww):=fun ww hk=>k2.trans' hk
 clear hb1 hb2 k1 k2 hx
 go_enter Tryz.func49,Tryz.ntmps49
 go_upto_region 2 with (first | (go_at_call 74;refine C.mono ?_;rintro e w1 ⟨v,rfl,hr,hk⟩;obtain ⟨bo,bc,rfl,ha,hbb⟩:=hr.arg (by omega);obtain ⟨q1,q2⟩:=HB.out w1 hk;obtain ⟨a0,a1,a2,a3,a4⟩:=box5 q1;obtain ⟨b0,b1,b2,b3,b4⟩:=box5 q2;obtain ⟨-,f1, -, -, -⟩:=free5 q1;obtain ⟨g0,g1,g2,g3,g4⟩:=free5 q2;clear q1 q2))
 go_wp2
 have K6:=set6_kept w1 w.heap.size (w.heap.size+1) (.slice bo x.2.1.length bc) (.int .i64 x.1) (.slice bo x.2.1.length bc) (.int .i64 x.2.2.1) (.bool x.2.2.2.1) (.int .i64 x.2.2.2.2)
 have R1:=ha.kept' K6 (fun a e s=>by have:=hbb a e;omega)
 have R2:Same0 w _:=(HK.out w1 hk).trans K6 (fun i hi e=>by omega)
 exact bodyPost_ret (v:=nodeV x bo bc) (by simp [results,Tryz.results49,go_sem,b0,b1,b2,b3,b4]) rfl ⟨bo,bc,rfl,R1,fun a e=>by have:=hbb a e;omega,R2⟩
theorem info_node:(Tryz.prog.info? 76).map (fun i=>(i.zero,i.size,i.bytes))=some (some (.agg #[.int .i64 0,.slice none 0 0,.int .i64 0,.bool false,.int .i64 0]),5,56):=by kernel_rfl
theorem Ac.nil:Ac []:=⟨fun _=>0,fun i j e=>absurd e.1 (Nat.not_lt_zero _)⟩
set_option maxHeartbeats 1000000 in
theorem hnew_no (n:Int) (w:World) (hn:n<1∨4000<n):Calls Tryz.prog 19 #[.int .i64 n] w fun e w' => e=.returned (.tuple #[.pointer none,.int .i64 110])∧w' = w:=by
 by_cases h1:n<1
 ·go_enter Tryz.func19,Tryz.ntmps19
  go_wp2
  go_ret2
  exact ⟨rfl,rfl⟩
 ·have h2:4000<n:=by omega
  go_enter Tryz.func19,Tryz.ntmps19
  go_wp2
  go_ret2
  exact ⟨rfl,rfl⟩
set_option maxHeartbeats 1000000 in
theorem hnew_yes (n:Nat) (w:World) (h1:1≤n) (h2:n≤4000):Calls Tryz.prog 19 #[.int .i64 (n:Int)] w fun e w' => ∃ h g,e=.returned (.tuple #[.pointer (some ⟨h,0,none⟩),.int .i64 0])∧HpB (fun _=>False) w' h g n []∧Same0 w w' ∧ w.heap.size≤h∧w.heap.size≤g:=by
 obtain ⟨i,hi,hz0,hz1,hz2⟩:=info_parts info_node
 have i1:(1:Int)≤(n:Int):=by omega
 have i2:(n:Int)≤4000:=by omega
 go_enter Tryz.func19,Tryz.ntmps19
 go_wp2_with (first | (at_make;refine wpList_make_full _ rfl _ _ 23 rfl w.heap.size 76 i _ 5 Tryz.underlying23 hi hz0 hz1 _ _ _ _ n rfl rfl rfl rfl (by rw [hz2];omega) (by unfold maxLen;omega) (Nat.le_refl _) ?_;intro w1 hown hgrow))
 go_ret2
 obtain ⟨hl,hr⟩:=hown
 rcases hr with ⟨e,h0⟩ | ⟨g,cap,cur,e,hb,hg,hle,hml,hsz,ht⟩
 ·cases e
 ·simp only [Value.slice.injEq,Option.some.injEq,Addr.mk.injEq,and_true,true_and] at e
  obtain ⟨rfl,rfl⟩:=e
  have K:Same0 w w1:=Same0.grown (Kept.refl _ w) hgrow
  refine ⟨w1.heap.size,w.heap.size,rfl,⟨heap_alloc_new w1 _,⟨cur,(Below.heap_alloc _ _ _ (lt_of_at hg)).trans hg,hsz⟩,h1,h2,Nat.zero_le _,fun i hi=>absurd hi (Nat.not_lt_zero _),fun x hx=>absurd hx (by simp),Ac.nil⟩,K.alloc _,K.size,Nat.le_refl _⟩
set_option maxHeartbeats 1000000 in
theorem room_any {B:Nat→Prop} {w:World} {h g room:Nat} {l:List Nd} (p:HpB B w h g room l):Calls Tryz.prog 62 #[.pointer (some ⟨h,0,none⟩)] w fun e w' => e=.returned (.int .i64 (room:Int))∧w' = w:=by
 obtain ⟨c0,c1⟩:=p.cells
 clear p
 go_enter Tryz.func62,Tryz.ntmps62
 go_wp2
 go_ret
 exact ⟨rfl,rfl⟩
set_option maxHeartbeats 1000000 in
theorem used_any {B:Nat→Prop} {w:World} {h g room:Nat} {l:List Nd} (p:HpB B w h g room l):Calls Tryz.prog 38 #[.pointer (some ⟨h,0,none⟩)] w fun e w' => e=.returned (.int .i64 (l.length:Int))∧w' = w:=by
 obtain ⟨c0,c1⟩:=p.cells
 clear p
 go_enter Tryz.func38,Tryz.ntmps38
 go_wp2
 go_ret
 exact ⟨rfl,rfl⟩
theorem ints_one (w:World) (z:Int):IntsAt (w.alloc (.cells #[.int .i64 z] 3)) (some ⟨w.heap.size,0,none⟩) [z]:=
 .inr ⟨w.heap.size,0,rfl,by simp,fun i hi=>by
  have hi' : i<1:=hi
  match i,hi' with
  | 0,_=>exact cellAt (heap_alloc_new w _) 0⟩
theorem refE_one {n:Nat} {a:Int} (h:0≤a∧a<(n:Int)):refE (n:Int) [a]=0:=by
 unfold refE;rw [if_pos (insB_iff.2 (by simpa using h))]
theorem refE_no {n:Nat} {a:Int} (h:¬ (0≤a∧a<(n:Int))):refE (n:Int) [a]=112:=by
 unfold refE;rw [if_neg (fun e=>h (by simpa using insB_iff.1 e))]
def NdOut (w w' : World) (x:Nd) (bo:Option Addr) (bc:Nat):Prop:=ArgT w' bo x.2.1 bc∧(∀ a,bo=some a→w.heap.size≤a.block)∧Same0 w w'
set_option maxHeartbeats 2000000 in
theorem hat_yes {B:Nat→Prop} {w:World} {h g room:Nat} {l:List Nd} (p:HpB B w h g room l) (i:Nat) (hi:i<l.length):Calls Tryz.prog 21 #[.pointer (some ⟨h,0,none⟩),.int .i64 (i:Int)] w fun e w' => ∃ bo bc,e=.returned (.tuple #[nodeV l[i] bo bc,.int .i64 0])∧NdOut w w' l[i] bo bc:=by
 obtain ⟨W0,hW0⟩:∃ W0,W0=w.alloc (.cells #[.int .i64 0,.slice none 0 0,.int .i64 0,.bool false,.int .i64 0] 76):=⟨_,rfl⟩
 have k0:Same0 w W0:=by rw [hW0];exact (Kept.refl _ w).alloc _
 have hb:W0.heap[w.heap.size]? = some (.cells #[.int .i64 0,.slice none 0 0,.int .i64 0,.bool false,.int .i64 0] 76 (0,0)):=by rw [hW0];exact heap_alloc_new w _
 have hz:W0.heap.size=w.heap.size+1:=by rw [hW0];simp
 have k1:Same0 W0 (W0.alloc (.cells #[.int .i64 (i:Int)] 3)):=(Kept.refl _ _).alloc _
 have p1:=(p.same k0).same k1
 have C:=refusal_hp p1 1 (ints_one W0 (i:Int)) (by simp)
 rw [refE_one (by omega)] at C
 obtain ⟨c0,c1⟩:=p1.cells
 obtain ⟨ao,ac,n0,n1,n2,n3,n4,n5,n6⟩:=p1.each i hi
 have hm:=(may_facts (p.may _ (List.getElem_mem hi))).2.1
 have CC:=copied_any (x:=l[i]) (ac:=ac) n5.1 (by omega)
 have i1:(0:Int)≤(i:Int):=by omega
 have i2:(i:Int)<(room:Int):=by have:=p.le;omega
 have HB:Hid (∀ ww,Same0 (W0.alloc (.cells #[.int .i64 (i:Int)] 3)) ww→ww.heap[w.heap.size]? = some (.cells #[.int .i64 0,.slice none 0 0,.int .i64 0,.bool false,.int .i64 0] 76 (0,0))):=fun ww hk=>(k1.trans' hk).at0 hb
 have HK:Hid (∀ ww,Same0 (W0.alloc (.cells #[.int .i64 (i:Int)] 3)) ww→Same0 w ww):=fun ww hk=>(k0.trans' k1).trans' hk
 have HZ:Hid (w.heap.size<W0.heap.size):=by show _<_;omega
 clear p p1 k0 hb k1 hz n5 n6
 go_enter Tryz.func21,Tryz.ntmps21
 go_upto_region 1 with fail
 rw [← hW0]
 clear hW0
 go_upto_region 4 with (first | (go_at_call 50;refine C.mono ?_;rintro e w' ⟨rfl,rfl⟩))
 clear C
 go_wp2_with (first | (go_at_call 49;refine CC.mono ?_;rintro e w1 ⟨bo,bc,rfl,ha,hbb,hk⟩;have q:=HB.out w1 hk;obtain ⟨b0,b1,b2,b3,b4⟩:=box5 q;obtain ⟨g0,g1,g2,g3,g4⟩:=free5 q;clear q CC n0 n1 n2 n3 n4 c0 c1))
 have hlt:w.heap.size<(W0.alloc (.cells #[.int .i64 (i:Int)] 3)).heap.size:=by have:=HZ.out;simp;omega
 have hx:∀ a,bo=some a→w.heap.size<a.block:=fun a e=>by have:=hbb a e;omega
 have K5:=put5_kept w1 w.heap.size 0 (.int .i64 l[i].1) (.slice bo l[i].2.1.length bc) (.int .i64 l[i].2.2.1) (.bool l[i].2.2.2.1) (.int .i64 l[i].2.2.2.2)
 have R1:=ha.kept' K5 (fun a e s=>by have:=hx a e;omega)
 have R2:Same0 w _:=(HK.out w1 hk).trans K5 (fun i hi e=>by omega)
 exact bodyPost_ret (v:=.tuple #[nodeV l[i] bo bc,.int .i64 0]) (by simp [results,Tryz.results21,go_sem,b0,b1,b2,b3,b4]) rfl ⟨bo,bc,rfl,R1,fun a e=>Nat.le_of_lt (hx a e),R2⟩
def Ind (l:List Nd):Nat→Nat→Nat→Prop
 | 0,a,b=>a=b
 | k+1,a,b=>∃ h:a<l.length,l[a].2.2.2.1=true∧Ind l k l[a].2.2.2.2.toNat b
def Res (l:List Nd) (a b:Nat):Prop:=(∃ k,Ind l k a b)∧∃ h:b<l.length,l[b].2.2.2.1=false
theorem Ind.uniq {l:List Nd}:∀ {k k' a b b' : Nat},Ind l k a b→Ind l k' a b' → (∃ h:b<l.length,l[b].2.2.2.1=false)→(∃ h:b' < l.length,l[b'].2.2.2.1=false)→b=b'
 | 0,0,a,b,b', h,h', _,_=>by cases h;cases h'; rfl
 | 0,k' + 1,a,b,b', h,⟨_,h1,_⟩,⟨_,q⟩,_=>by cases h;rw [h1] at q;cases q
 | k+1,0,a,b,b', ⟨_,h1,_⟩,h', _,⟨_,q⟩=>by cases h'; rw [h1] at q;cases q
 | k+1,k' + 1,a,b,b', ⟨_,_,h⟩,⟨_,_,h'⟩,q,q' => Ind.uniq h h' q q'
theorem Res.uniq {l:List Nd} {a b b' : Nat} (h:Res l a b) (h' : Res l a b'):b=b' := by
 obtain ⟨⟨k,h1⟩,h2⟩:=h
 obtain ⟨⟨k', h3⟩,h4⟩:=h'
 exact Ind.uniq h1 h3 h2 h4
theorem Ind.snoc {l:List Nd}:∀ {k a b:Nat},Ind l k a b→∀ (h:b<l.length),l[b].2.2.2.1=true→Ind l (k+1) a l[b].2.2.2.2.toNat
 | 0,a,b,h,hb,q=>by cases h;exact ⟨hb,q,rfl⟩
 | k+1,a,b,⟨h1,h2,h3⟩,hb,q=>⟨h1,h2,h3.snoc hb q⟩
theorem Res.step {l:List Nd} {a b:Nat} (h:a<l.length) (q:l[a].2.2.2.1=true) (r:Res l l[a].2.2.2.2.toNat b):Res l a b:=by
 obtain ⟨⟨k,h1⟩,h2⟩:=r
 exact ⟨⟨k+1,h,q,h1⟩,h2⟩
theorem Res.self {l:List Nd} {a:Nat} (h:a<l.length) (q:l[a].2.2.2.1=false):Res l a a:=⟨⟨0,rfl⟩,h,q⟩
theorem ed_ind {l:List Nd} {a:Nat} (h:a<l.length) (q:l[a].2.2.2.1=true) (hz:0≤l[a].2.2.2.2):Ed l a l[a].2.2.2.2.toNat:=⟨h,by unfold downL;rw [if_pos q];simp;omega⟩
set_option maxHeartbeats 1000000 in
theorem hres_no {B:Nat→Prop} {w:World} {h g room:Nat} {l:List Nd} (p:HpB B w h g room l) (a:Int) (ha:¬ (0≤a∧a<(l.length:Int))):Calls Tryz.prog 70 #[.pointer (some ⟨h,0,none⟩),.int .i64 a] w fun e w' => e=.returned (.tuple #[.int .i64 0,.int .i64 112])∧Same0 w w' := by
 have k1:Same0 w (w.alloc (.cells #[.int .i64 a] 3)):=(Kept.refl _ _).alloc _
 have C:=refusal_hp (p.same k1) 1 (ints_one w a) (by simp)
 rw [refE_no ha] at C
 clear p ha
 go_enter Tryz.func70,Tryz.ntmps70
 go_wp2_with (first | (go_at_call 50;refine C.mono ?_;rintro e w' ⟨rfl,rfl⟩))
 go_ret2
 exact ⟨rfl,k1⟩
set_option maxHeartbeats 2000000 in
theorem hres_yes {B:Nat→Prop} {w:World} {h g room:Nat} {l:List Nd} (p:HpB B w h g room l) (i:Nat) (hi:i<l.length):Calls Tryz.prog 70 #[.pointer (some ⟨h,0,none⟩),.int .i64 (i:Int)] w fun e w' => ∃ b:Nat,e=.returned (.tuple #[.int .i64 (b:Int),.int .i64 0])∧Res l i b∧Same0 w w' := by
 have k1:Same0 w (w.alloc (.cells #[.int .i64 (i:Int)] 3)):=(Kept.refl _ _).alloc _
 have p1:=p.same k1
 have C:=refusal_hp p1 1 (ints_one w (i:Int)) (by simp)
 rw [refE_one (by omega)] at C
 obtain ⟨c0,c1⟩:=p1.cells
 obtain ⟨r,hr⟩:=p.ac
 have HR:Hid (∀ i j,Ed l i j→r j<r i):=hr
 have HE:Hid (∀ j (hj:j<l.length),NdC B (w.alloc (.cells #[.int .i64 (i:Int)] 3)) g (j * 5) l[j]):=p1.each
 have HM:Hid (∀ x∈l,mayB l.length x=true):=p.may
 have hle:=p.le
 have K1:Hid (Same0 w (w.alloc (.cells #[.int .i64 (i:Int)] 3))):=k1
 clear p p1 k1 hr
 go_enter Tryz.func70,Tryz.ntmps70
 go_upto_region 4 with (first | (go_at_call 50;refine C.mono ?_;rintro e w' ⟨rfl,rfl⟩))
 clear C
 go_loop [1] (fun v=>∃ a:Nat,a<l.length∧v=.int .i64 (a:Int)∧Hid (∃ k,Ind l k i a)) (fun v=>r (intOf v).toNat)
 case atStart=>exact ⟨i,hi,rfl,0,rfl⟩
 case round=>
  obtain ⟨a,ha,rfl,hk⟩:=hrel
  obtain ⟨ao,ac,n0,n1,n2,n3,n4, -, -⟩:=HE.out a ha
  have i1:(0:Int)≤(a:Int):=by omega
  have i2:(a:Int)<(room:Int):=by omega
  have mf:=may_facts (HM.out _ (List.getElem_mem ha))
  cases hp:l[a].2.2.2.1
  ·rw [hp] at n3
   have HP:Hid (l[a].2.2.2.1=false):=hp
   clear hp mf n0 n1 n2 n4
   go_wp2
   go_ret2
   exact ⟨a,rfl,⟨hk.out,ha,HP.out⟩,K1.out⟩
  ·rw [hp] at n3
   have HP:Hid (l[a].2.2.2.1=true):=hp
   obtain ⟨m1,m2, -⟩:=mf.2.2.2.2.2.1 hp
   obtain ⟨t,ht⟩:∃ t:Nat,l[a].2.2.2.2=(t:Int):=⟨l[a].2.2.2.2.toNat,by omega⟩
   have HT:Hid (l[a].2.2.2.2=(t:Int)):=ht
   rw [ht] at n4
   have hlt:t<l.length:=by omega
   clear hp mf n0 n1 n2 m1 m2 ht
   go_wp2
   go_round
   case rel=>exact ⟨t,hlt,rfl,by
    obtain ⟨k,hk⟩:=hk.out
    have:=hk.snoc ha HP.out
    rw [HT.out] at this
    exact ⟨k+1,by simpa using this⟩⟩
   case measure=>
    have:=HR.out a t (by have:=ed_ind ha HP.out (by rw [HT.out];omega);rw [HT.out] at this;simpa using this)
    simpa [intOf] using this
def mkE (l:List Nd) (room:Nat) (s:Int) (xs:List Int):Int:=if s<0∨6<xs.length then 1 else if insB (l.length:Int) xs=false then 112 else if l.length=room then 111 else 0
theorem may_make {l:List Nd} (h:∀ x∈l,mayB l.length x=true) {x:Nd} (hx:mayB l.length x=true):∀ y∈l ++ [x],mayB (l ++ [x]).length y=true:=by
 intro y hy
 have:l.length≤(l ++ [x]).length:=by simp
 rcases List.mem_append.1 hy with q | q
 ·exact may_more (h y q) this
 ·simp at q;subst q;exact may_more hx this
theorem mk_zero {l:List Nd} {room:Nat} {s:Int} {xs:List Int} (he:mkE l room s xs=0):0≤s∧xs.length≤6∧insB (l.length:Int) xs=true∧l.length≠room:=by
 unfold mkE at he
 split at he
 ·cases he
 ·split at he
  ·cases he
  ·split at he
   ·cases he
   ·rename_i a b c
    exact ⟨by omega,by omega,by simpa using b,c⟩
theorem mk_may {l:List Nd} {s:Int} {xs:List Int} (h0:0≤s) (h1:xs.length≤6) (h2:insB (l.length:Int) xs=true):mayB l.length (s,xs,0,false,0)=true:=by
 unfold mayB
 unfold insB at h2
 simp [h0,h1]
 simpa using h2
theorem HpB.made {B:Nat→Prop} {w w1:World} {h g room:Nat} {l:List Nd} (p:HpB B w h g room l) (k1:Same0 w w1) {s:Int} {xs:List Int} (he:mkE l room s xs=0) {bo:Option Addr} {bc:Nat} (ha:ArgT w1 bo xs bc) (hb:∀ a,bo=some a→w.heap.size≤a.block) :
  HpB (fun b=>B b∨w.heap.size≤b) ((put5 w1 g (l.length * 5) (.int .i64 s) (.slice bo xs.length bc) (.int .i64 0) (.bool false) (.int .i64 0)).setCell ⟨h,1,none⟩ (.int .i64 ((l.length:Int)+1))) h g room (l ++ [(s,xs,0,false,0)]):=by
 obtain ⟨h0,h1,h2,h3⟩:=mk_zero he
 have hle:=p.le
 have p1:=p.same k1
 have q:=put5_nodes (B' := fun b=>B b∨w.heap.size≤b) (i:=l.length) (x:=(s,xs,0,false,0)) (ao:=bo) (ac:=bc) p1.blk p1.each (by omega) ha (fun a e=>.inr (hb a e)) (fun k e=>.inl e)
 obtain ⟨q1,q2,q3⟩:=q
 have kp:=put5_kept w1 g (l.length * 5) (.int .i64 s) (.slice bo xs.length bc) (.int .i64 0) (.bool false) (.int .i64 0)
 have bx:=kp.at p1.box p.ne
 have ks:Kept (fun k=>k=h) (put5 w1 g (l.length * 5) (.int .i64 s) (.slice bo xs.length bc) (.int .i64 0) (.bool false) (.int .i64 0)) _:=Kept.setCell (S:=fun k=>k=h) (Kept.refl _ _) (p:=⟨h,1,none⟩) (fun _=>rfl) (.int .i64 ((l.length:Int)+1))
 have nh:∀ k,k=h→NotI (put5 w1 g (l.length * 5) (.int .i64 s) (.slice bo xs.length bc) (.int .i64 0) (.bool false) (.int .i64 0)) k:=fun k e cur hc=>by rw [e,bx] at hc;cases hc
 have gl:g<(put5 w1 g (l.length * 5) (.int .i64 s) (.slice bo xs.length bc) (.int .i64 0) (.bool false) (.int .i64 0)).heap.size:=Nat.lt_of_lt_of_le p1.ltG kp.size
 refine ⟨?_,?_,p.rm1,p.rm2,by simp;omega,fun i hi=>?_,may_make p.may (mk_may h0 h1 h2),p.ac.make p.inl _ (may_down (mk_may h0 h1 h2))⟩
 ·have:=setAt bx 1 (.int .i64 ((l.length:Int)+1))
  simpa using this
 ·obtain ⟨cs,q4,q5⟩:=q2
  exact ⟨cs,ks.at q4 (fun e=>p.ne e.symm),q5⟩
 ·by_cases e:i<l.length
  ·rw [List.getElem_append_left e]
   exact (q3 i e (by omega)).kept gl ks (fun e=>p.ne e.symm) (fun k _ e=>nh k e)
  ·obtain rfl:i=l.length:=by simp at hi;omega
   simp only [List.getElem_append_right (Nat.le_refl _),Nat.sub_self,List.getElem_cons_zero]
   exact q1.kept gl ks (fun e=>p.ne e.symm) (fun k _ e=>nh k e)
theorem made_kept {w w1:World} (k1:Same0 w w1) (h g off:Nat) (v0 v1 v2 v3 v4 v5:Value):Kept (fun k=>k=h∨k=g) w ((put5 w1 g off v0 v1 v2 v3 v4).setCell ⟨h,1,none⟩ v5):=by
 have a:Kept (fun k=>k=h∨k=g) w w1:=k1.mono (fun _ _ f=>f.elim)
 have b:=a.trans (S' := fun k=>k=g) (put5_kept w1 g off v0 v1 v2 v3 v4) (fun _ _ e=>.inr e)
 exact Kept.setCell (S:=fun k=>k=h∨k=g) b (p:=⟨h,1,none⟩) (fun _=>.inl rfl) v5
end Go.Proofs.YtblgblgchkonhaaGreat
