import Derived.Test.YtdhiiicppcgkbaaGreatGB29
import Derived.Test.YtdhiiicppcgkbaaGreatGB05
import Derived.Test.YtdhiiicppcgkbaaGreatGB16
import Derived.Laws.AppendOwnNone
import Derived.Test.YtdhiiicppcgkbaaGreatGB18
namespace Go.Proofs.YtdhiiicppcgkbaaGreat
set_option maxRecDepth 100000
set_option linter.unusedVariables false
open Go.RowKit
attribute [local go_sem ↓] Go.wp_at_zero Go.wp_at_succ
set_option maxHeartbeats 2000000 in
theorem made_both (ao:Option Addr) (len cap:Nat) (xs:List Sym) (w:World) (hx:SymsAt w ao len xs) (hm:len≤maxLen) :
  Calls Tryz.prog 23 #[.slice ao len cap] w fun e w' => ∃ b ro rc sv mr,e=.returned (.tuple #[.pointer (some ⟨b,0,none⟩),.slice ro (madeL xs).length rc])∧SigAt w' b (madeL xs) sv mr∧(∀ k,Foot b sv mr k→w.heap.size≤k∧k<w'.heap.size)∧Sg w'.heap.size w' b (madeL xs)∧Rl w'.heap.size w' (.slice ro (madeL xs).length rc) (madeL xs)∧(∀ k,(Value.slice ro (madeL xs).length rc).ownBlock=some k→¬ Foot b sv mr k)∧Same0 w w' := by
 unfold maxLen at hm
 go_enter Tryz.func23,Tryz.ntmps23
 go_wp2_with (first | (go_at_call 57;refine (new_any _).mono ?_;rintro e w' ⟨rfl,rfl⟩))
 go_loopw [6] (fun i wr=>∃ (k:Nat) (sv:Value) (mr:Option Nat) (rv:Value),k≤len∧i=.int .i64 (k:Int)∧Both w.heap.size w wr w.heap.size (w.heap.size+1) (madeL (xs.take k)) sv mr rv) (fun i _=>len-(intOf i).toNat)
 case atStart=>exact ⟨0,_,_,_,Nat.zero_le _,rfl,Both.start w⟩
 case round=>
  obtain ⟨k,sv,mr,rv,hk,rfl,hb⟩:=hrel
  have hlen:=hb.sg.len
  by_cases hlt:k<len
  ·obtain ⟨xl,xc,xw⟩:=hx.kept (from_below hb.k).below
   obtain ⟨xb,off,rfl,hxb,hxc⟩:=xc.resolve_left (by omega)
   have hkx:k<xs.length:=by omega
   obtain ⟨x0,x1,x2⟩:=hxc k hkx
   have xsz:=(xw xs[k] (List.getElem_mem hkx)).1
   have i1:(0:Int)≤(k:Int):=by omega
   have i2:(k:Int)<(len:Int):=by omega
   have E1:Hid (madeL (xs.take (k+1))=addL (madeL (xs.take k)) xs[k]):=madeL_snoc hkx
   have hn0:=hb.k.size
   have hxs:=hx
   clear hxc xw xc xl
   generalize madeL (xs.take k)=L at *
   go_wp2_with fail
   refine (add_any hb.sg xs[k] xsz).mono ?_
   rintro e w1 ⟨rfl,sv1,mr1,h1,h2,h3⟩
   have hr1:RefAt w1 (w.heap.size+1) L rv:=hb.rf.kept h2 (fun k hk' e=>hb.d k e hk')
   have k1:Kept (From w.heap.size) w w1:=hb.k.trans h2 (fun i _ e=>hb.f i e)
   obtain ⟨y0,y1,y2⟩:w1.cell? ⟨xb,off+k * 3,none⟩=some (.string xs[k].name)∧w1.cell? ⟨xb,off+k * 3+1,none⟩=some (.int .i64 xs[k].ar)∧w1.cell? ⟨xb,off+k * 3+2,none⟩=some (.bool xs[k].df):=by
    obtain ⟨_,yc,_⟩:=hxs.kept (from_below k1).below
    obtain ⟨_,_,e,_,hyc⟩:=yc.resolve_left (by omega)
    simp only [Option.some.injEq,Addr.mk.injEq,and_true] at e
    rw [e.1,e.2]
    exact hyc k hkx
   clear x0 x1 x2
   go_wp2_with fail
   refine (radd_any hr1 hlen xs[k] xsz).mono ?_
   rintro e w2 ⟨rfl,hr⟩
   obtain ⟨rv2,hb2⟩:=hb.next xs[k] hn0 h1 h2 h3 hr
   go_wp2
   refine ⟨⟨k+1,sv1,mr1,rv2,by omega,by go_num,?_⟩,by simp [intOf];omega⟩
   rw [E1.out];exact hb2
  ·have hxl:=hx.1
   have E1:xs.take k=xs:=List.take_of_length_le (by omega)
   rw [E1] at hb hlen
   have r0:=hb.rf.c0
   obtain ⟨ro,rc,rfl⟩:=row_shape hb.rf.row
   clear E1
   go_wp2
   go_quiet (fail)
   go_wp2
   go_ret2
   have kd:Same0 wr (wr.drewN nq):=(Kept.refl _ _).drewN nq
   have hz:(wr.drewN nq).heap.size=wr.heap.size:=by first | rfl | simp
   have fin:Sg wr.heap.size wr w.heap.size (madeL xs)∧Rl wr.heap.size wr (.slice ro (madeL xs).length rc) (madeL xs)∧Same0 w wr:=⟨⟨⟨sv,mr,hb.sg,sig_foot_lt hb.sg⟩,hb.a⟩,⟨hb.rf.row,fun k e=>hb.rf.lt k (.inr e),hb.a,hlen⟩,from_below hb.k⟩
   exact ⟨w.heap.size,ro,rc,sv,mr,rfl,hb.sg.kept kd (fun _ _ f=>f),fun k hk=>⟨hb.f k hk,Nat.lt_of_lt_of_le (sig_foot_lt hb.sg k hk) kd.size⟩,sg_up (fin.1.same kd) kd.size,rl_up (fin.2.1.same kd) kd.size,fun k e hf=>hb.d k hf (.inr e),fin.2.2.trans' kd⟩
set_option maxHeartbeats 4000000 in
theorem over_nil (ao:Option Addr) (len cap:Nat) (w:World):Calls Tryz.prog 24 #[.pointer none,.slice ao len cap] w fun e w' => e=.returned (.agg #[.slice none 0 0,.slice none 0 0])∧Same0 w w' := by
 obtain ⟨W1,hW1⟩:∃ W1,W1=w.alloc (.cells #[.slice none 0 0,.slice none 0 0] 70):=⟨_,rfl⟩
 have KW:Same0 w W1:=by rw [hW1];exact (Kept.refl _ w).alloc _
 have hbx:W1.heap[w.heap.size]? = some (.cells #[.slice none 0 0,.slice none 0 0] 70 (0,0)):=by rw [hW1];exact heap_alloc_new w _
 have r2:=cellAt hbx 0
 have r3:=cellAt hbx 1
 have f2:=frozenAt hbx 0
 have f3:=frozenAt hbx 1
 have PUT:Hid (∀ x y,(((W1.setCell ⟨w.heap.size,0,none⟩ x).setCell ⟨w.heap.size,1,none⟩ y).cell? ⟨w.heap.size,0,none⟩=some x∧((W1.setCell ⟨w.heap.size,0,none⟩ x).setCell ⟨w.heap.size,1,none⟩ y).cell? ⟨w.heap.size,1,none⟩=some y)∧Same0 w ((W1.setCell ⟨w.heap.size,0,none⟩ x).setCell ⟨w.heap.size,1,none⟩ y)):=fun x y=>by
  have h2:=setAt (setAt hbx 0 x) 1 y
  exact ⟨⟨cellAt h2 0,cellAt h2 1⟩,Same0.own (Same0.own KW (Nat.le_refl _) _) (Nat.le_refl _) _⟩
 clear hbx
 go_enter Tryz.func24,Tryz.ntmps24
 go_upto_region 1 with fail
 rw [← hW1]
 clear hW1
 go_wp2_with (first | (go_at_call 59;refine (check_nil _ _ _ _).mono ?_;rintro e w2 ⟨rfl,rfl⟩))
 obtain ⟨⟨g0,g1⟩,ks⟩:=PUT.out (.slice none 0 0) (.slice none 0 0)
 exact bodyPost_ret (v:=.agg #[.slice none 0 0,.slice none 0 0]) (by simp [results,Tryz.results24,go_sem,g0,g1]) rfl ⟨rfl,ks⟩
theorem row_get9 {base:Nat} {w:World} {v:Value} {xs:List Int} (h:Row base w v xs) {i:Nat} (hi:i<xs.length):∃ g cap,v=.slice (some ⟨g,0,none⟩) xs.length cap∧g<w.heap.size∧w.cell? ⟨g,i,none⟩=some (.int .i64 xs[i]):=by
 obtain ⟨g,cap,hv,_,hlt⟩:=h.form (by omega)
 subst hv
 exact ⟨g,cap,rfl,hlt,(h.cellAt i (by omega)).trans (iv_get hi)⟩
theorem cls_neg {L:List Sym} {t:List Int} {k:Nat} (h:k<t.length) (hx:t[k]<0):clsB L t=false:=by
 have:t.any (fun x=>decide (x<0))=true:=List.any_eq_true.2 ⟨t[k],List.getElem_mem h,by simpa using hx⟩
 simp [clsB,this]
theorem cls_none {L:List Sym} {t:List Int} (h:∀ x∈t,0≤x):clsB L t=decide (checkE L t=0):=by
 have:t.any (fun x=>decide (x<0))=false:=by
  rw [List.any_eq_false]
  intro x hx
  have:=h x hx
  simp;omega
 simp [clsB,this]
theorem cls_pos {L:List Sym} {t:List Int} (h:clsB L t=true):checkE L t=0∧∀ x∈t,0≤x:=by
 unfold clsB at h
 simp only [Bool.and_eq_true,decide_eq_true_eq,Bool.not_eq_true', List.any_eq_false,decide_eq_true_eq] at h
 exact ⟨h.1,fun x hx=>by have:=h.2 x hx;omega⟩
set_option maxHeartbeats 4000000 in
theorem rclosed_any {n:Nat} {w:World} {rv:Value} {L:List Sym} (h:Rl n w rv L) {ao:Option Addr} {cap:Nat} {t:List Int} (ht:IntsAt w ao t) (hm:t.length≤maxLen) :
  Calls Tryz.prog 33 #[rv,.slice ao t.length cap] w fun e w' => e=.returned (.bool (clsB L t))∧w' = w:=by
 have CK:=rcheck_any (cap:=cap) h ht hm
 unfold maxLen at hm
 obtain ⟨ro,rcap,rfl⟩:=row_shape h.1
 go_enter Tryz.func33,Tryz.ntmps33
 go_wp2
 go_loopw [5] (fun i wr=>∃ k:Nat,k≤t.length∧i=.int .i64 (k:Int)∧Hid (∀ x∈t.take k,0≤x)∧wr=w) (fun i _=>t.length-(intOf i).toNat)
 case atStart=>exact ⟨0,Nat.zero_le _,rfl,fun x hx=>by simp at hx,rfl⟩
 case round=>
  obtain ⟨k,hk,rfl,hH,rfl⟩:=hrel
  by_cases hlt:k<t.length
  ·obtain ⟨b,off,rfl,hb,hc⟩:=ht.get hlt
   have i1:(0:Int)≤(k:Int):=by omega
   have i2:(k:Int)<(t.length:Int):=by omega
   by_cases hx:t[k]<0
   ·have H:Hid (clsB L t=false):=cls_neg hlt hx
    generalize t[k]=x at *
    go_wp2
    go_ret
    exact ⟨by rw [H.out];rfl,rfl⟩
   ·have H:Hid (∀ x∈t.take (k+1),0≤x):=fun x hm' => by
     rw [← List.take_append_getElem hlt,List.mem_append] at hm'
     rcases hm' with h1 | h1
     ·exact hH.out x h1
     ·simp at h1;omega
    generalize t[k]=x at *
    go_wp2
    go_roundw
    case rel=>exact ⟨k+1,by omega,by go_num,H,trivial⟩
    case measure=>simp [intOf];omega
  ·have H:Hid (clsB L t=decide (checkE L t=0)):=cls_none (fun x hx=>hH.out x (by rw [List.take_of_length_le (by omega)];exact hx))
   generalize checkE L t=z at *
   go_wp2_with (first | (go_at_call 68;refine CK.mono ?_;rintro e w2 ⟨rfl,rfl⟩))
   go_ret
   exact ⟨by rw [H.out];rfl,rfl⟩
set_option maxHeartbeats 4000000 in
theorem rhead9_any {n:Nat} {w:World} {rv:Value} {L:List Sym} (h:Rl n w rv L) {ao:Option Addr} {cap:Nat} {t:List Int} (ht:IntsAt w ao t) (hm:t.length≤maxLen) (p:Int) :
  Calls Tryz.prog 30 #[rv,.slice ao t.length cap,.int .i64 p] w fun e w' => e=.returned (.int .i64 (headI (clsB L t) t p))∧w' = w:=by
 have CK:=rclosed_any (cap:=cap) h ht hm
 unfold maxLen at hm
 obtain ⟨ro,rcap,rfl⟩:=row_shape h.1
 cases hcl:clsB L t with
 | false=>
  rw [hcl] at CK
  go_enter Tryz.func30,Tryz.ntmps30
  go_wp2_with (first | (go_at_call 33;refine CK.mono ?_;rintro e w2 ⟨rfl,rfl⟩))
  go_ret
  exact ⟨rfl,rfl⟩
 | true=>
  rw [hcl] at CK
  by_cases h0:p<0
  ·have H:Hid (headI true t p = -1):=by show _=_;simp [headI,idxB];omega
   go_enter Tryz.func30,Tryz.ntmps30
   go_wp2_with (first | (go_at_call 33;refine CK.mono ?_;rintro e w2 ⟨rfl,rfl⟩))
   go_ret
   exact ⟨by rw [H.out];rfl,rfl⟩
  ·by_cases h1:p<(t.length:Int)
   ·obtain ⟨i,rfl⟩:∃ i:Nat,p=(i:Int):=⟨p.toNat,by omega⟩
    have hi:i<t.length:=by omega
    have H:Hid (headI true t (i:Int)=t[i]):=by show _=_;simp [headI,idxB,hi]
    obtain ⟨b,off,rfl,hb,hc⟩:=ht.get hi
    have i1:(0:Int)≤(i:Int):=by omega
    generalize t[i]=x at *
    go_enter Tryz.func30,Tryz.ntmps30
    go_wp2_with (first | (go_at_call 33;refine CK.mono ?_;rintro e w2 ⟨rfl,rfl⟩))
    go_ret
    exact ⟨by rw [H.out];rfl,rfl⟩
   ·have H:Hid (headI true t p = -1):=by show _=_;simp [headI,idxB];omega
    go_enter Tryz.func30,Tryz.ntmps30
    go_wp2_with (first | (go_at_call 33;refine CK.mono ?_;rintro e w2 ⟨rfl,rfl⟩))
    go_ret
    exact ⟨by rw [H.out];rfl,rfl⟩
set_option maxHeartbeats 4000000 in
theorem rarg9_any {n:Nat} {w:World} {rv:Value} {L:List Sym} (h:Rl n w rv L) {ao:Option Addr} {cap:Nat} {t:List Int} (ht:IntsAt w ao t) (hm:t.length≤maxLen) (p m:Int) :
  Calls Tryz.prog 32 #[rv,.slice ao t.length cap,.int .i64 p,.int .i64 m] w fun e w' => e=.returned (.int .i64 (argI L (clsB L t) t p m))∧Same0 w w' := by
 have CH:=rhead9_any (cap:=cap) h ht hm p
 by_cases hok:(clsB L t && idxB p t.length)=true
 ·have hok2:=hok
  rw [Bool.and_eq_true] at hok2
  obtain ⟨hcl,hix⟩:=hok2
  obtain ⟨i,rfl,hi⟩:=idx_yes hix
  obtain ⟨ck,hpos⟩:=cls_pos hcl
  obtain ⟨h2000,_,hT⟩:=checkE_zero.1 ck
  have CA:=rargs_any (cap:=cap) h ht h2000 hT i hi
  have hh:headI (clsB L t) t (i:Int)=t[i]:=by simp [headI,hok,hi]
  have hx:0≤t[i]:=hpos _ (List.getElem_mem hi)
  rw [hh] at CH
  have HA:Hid (argI L (clsB L t) t (i:Int) m=if idxB m (argsN L t i).length=true then (((argsN L t i).getD m.toNat 0:Nat):Int) else -1):=by show _=_;rw [argI,if_pos hok,Int.toNat_natCast]
  have hl:(ofN (argsN L t i)).length=(argsN L t i).length:=by simp [ofN]
  obtain ⟨ro,rcap,rfl⟩:=row_shape h.1
  generalize t[i]=x at *
  clear hok hcl hix hpos ck hh h
  by_cases h0:m<0
  ·have H:Hid (argI L (clsB L t) t (i:Int) m = -1):=by show _=_;rw [HA.out,if_neg (by simp [idxB];omega)]
   go_enter Tryz.func32,Tryz.ntmps32
   go_wp2_with (first | (go_at_call 30;refine CH.mono ?_;rintro e w2 ⟨rfl,rfl⟩) | (go_at_call 67;refine CA.mono ?_;rintro e w3 ⟨v,rfl,hr,k3⟩;obtain ⟨vo,vc,rfl,hv,_⟩:=hr.ints))
   go_ret
   exact ⟨by rw [H.out];rfl,k3⟩
  ·by_cases h1:m<((argsN L t i).length:Int)
   ·obtain ⟨j,rfl⟩:∃ j:Nat,m=(j:Int):=⟨m.toNat,by omega⟩
    have hj:j<(argsN L t i).length:=by omega
    have H:Hid (argI L (clsB L t) t (i:Int) (j:Int)=(ofN (argsN L t i))[j]):=by
     show _=_
     rw [HA.out,if_pos (by simp [idxB,hj])]
     simp [ofN,hj]
    have i1:(0:Int)≤(j:Int):=by omega
    have i2:(j:Int)<((ofN (argsN L t i)).length:Int):=by omega
    go_enter Tryz.func32,Tryz.ntmps32
    go_wp2_with (first | (go_at_call 30;refine CH.mono ?_;rintro e w2 ⟨rfl,rfl⟩) | (go_at_call 67;refine CA.mono ?_;rintro e w3 ⟨v,rfl,hr,k3⟩;obtain ⟨g,gc,rfl,hgl,hgc⟩:=row_get9 hr (i:=j) (by omega)))
    go_ret
    exact ⟨by rw [H.out];rfl,k3⟩
   ·have H:Hid (argI L (clsB L t) t (i:Int) m = -1):=by show _=_;rw [HA.out,if_neg (by simp [idxB];omega)]
    have h1' : ¬ m<((ofN (argsN L t i)).length:Int):=by omega
    go_enter Tryz.func32,Tryz.ntmps32
    go_wp2_with (first | (go_at_call 30;refine CH.mono ?_;rintro e w2 ⟨rfl,rfl⟩) | (go_at_call 67;refine CA.mono ?_;rintro e w3 ⟨v,rfl,hr,k3⟩;obtain ⟨vo,vc,rfl,hv,_⟩:=hr.ints))
    go_ret
    exact ⟨by rw [H.out];rfl,k3⟩
 ·have hh:headI (clsB L t) t p = -1:=by rw [headI,if_neg hok]
  have H:Hid (argI L (clsB L t) t p m = -1):=by show _=_;rw [argI,if_neg hok]
  rw [hh] at CH
  obtain ⟨ro,rcap,rfl⟩:=row_shape h.1
  clear hok hh
  go_enter Tryz.func32,Tryz.ntmps32
  go_wp2_with (first | (go_at_call 30;refine CH.mono ?_;rintro e w2 ⟨rfl,rfl⟩))
  go_ret
  exact ⟨by rw [H.out];rfl,Kept.refl _ _⟩
end Go.Proofs.YtdhiiicppcgkbaaGreat
namespace Go.Proofs.YtdhiiicppcgkbaaGreat
set_option linter.unusedVariables false
open Go.RowKit
theorem wpList_more9 {w0:World} {ops:Array Oper} {rest:List Oper} {o:Oper} {a:Act} {Q:Exit→Act→World→Prop} (hgd:o.guard=none) (s x:Operand) (t:TypeId)
  (ho:o.op=.call { callee:=.builtin .append,args:=#[s,x],argTypes:=#[t,t] }) (ht:Tryz.prog.underlying t=some (.slice 3))
  (base:Nat) (xs:List Int) (v:Value) (hs:a.eval s=v) (hr:Row base w0 v xs) (ys:List Int) (ao:Option Addr) (m c:Nat) (hx:a.eval x=.slice ao m c) (hm:m=ys.length) (hy:IntsAt w0 ao ys) (hnil:ao=none→ys.length=0∧c=0) (hb:base≤w0.heap.size) (hsz:(xs.length+ys.length) * 8≤140737488355328)
  (h:∀ v' w', Row base w' v' (xs++ys)→Kept (fun k=>v.ownBlock=some k) w0 w' → wpList Tryz.prog ops Q rest (a.put o.dst v') w') :
  wpList Tryz.prog ops Q (o :: rest) a w0:=by
 cases ao with
 | none=>
  obtain ⟨h1,rfl⟩:=hnil rfl
  have:ys=[]:=List.eq_nil_of_length_eq_zero h1
  subst this
  subst hm
  obtain ⟨i,hi,hz0,hz1,hz2⟩:=info_parts info_intT
  exact wpList_append_own_none hgd s x t ho base 3 i 1 ht hi v xs.length (iv xs) hs hr hx (h v w0 (by simpa using hr) (Kept.refl _ _))
 | some ad=>exact wpList_more hgd s x t ho ht base xs v hs hr ys ad m c hx hm hy hb hsz h
end Go.Proofs.YtdhiiicppcgkbaaGreat
namespace Go.Proofs.YtdhiiicppcgkbaaGreat
set_option maxRecDepth 100000
set_option linter.unusedVariables false
open Go.RowKit
attribute [local go_sem ↓] Go.wp_at_zero Go.wp_at_succ
set_option maxHeartbeats 32000000 in
theorem rrun_any {n:Nat} {w:World} {L:List Sym} {yo:Option Addr} {yc:Nat} (hr:Rl n w (.slice yo L.length yc) L) {to' : Option Addr} {tc:Nat} {T:List Int} (hT:IntsAt w to' T) (hTm:T.length≤maxLen) {io:Option Addr} {I:List I3} (hI:InsAt w io I) (hl:I.length≤140737488355328) {po:Option Addr} {P:List (List Int)} (hP:PthAt w po P) {eo:Option Addr} {E:List Int} (hE:IntsAt w eo E) (ic pc ec:Nat) (ro:Option Addr) (rl rc:Nat) (n0 node:Int) :
  Calls Tryz.prog 26 #[.agg #[.slice io I.length ic,.slice po P.length pc,.slice eo E.length ec,.slice ro rl rc],.int .i64 n0,.slice yo L.length yc,.slice to' T.length tc,.int .i64 node] w (FndOut w (codeF L (clsB L T) T I P E n0 node)):=by
 have CRH:Hid (∀ ww p,Same0 w ww→Calls Tryz.prog 30 #[.slice yo L.length yc,.slice to' T.length tc,.int .i64 p] ww fun e w' => e=.returned (.int .i64 (headI (clsB L T) T p))∧w' = ww):=fun ww p hk=>rhead9_any (hr.same hk) (hT.same hk) hTm p
 have CRA:Hid (∀ ww p m,Same0 w ww→Calls Tryz.prog 32 #[.slice yo L.length yc,.slice to' T.length tc,.int .i64 p,.int .i64 m] ww fun e w' => e=.returned (.int .i64 (argI L (clsB L T) T p m))∧Same0 ww w'):=fun ww p m hk=>rarg9_any (hr.same hk) (hT.same hk) hTm p m
 generalize clsB L T=ok at *
 obtain ⟨R,hR⟩:∃ R,R=codeF L ok T I P E n0 node:=⟨_,rfl⟩
 rw [← hR]
 obtain ⟨W1,hW1⟩:∃ W1,W1=(w.alloc (.cells #[.slice io I.length ic,.slice po P.length pc,.slice eo E.length ec,.slice ro rl rc] 45)).alloc (.cells #[.int .i64 0,.int .i64 0,.slice none 0 0,.int .i64 0] 73):=⟨_,rfl⟩
 have KW:Same0 w W1:=by rw [hW1];exact ((Kept.refl _ w).alloc _).alloc _
 have hbx:W1.heap[w.heap.size]? = some (.cells #[.slice io I.length ic,.slice po P.length pc,.slice eo E.length ec,.slice ro rl rc] 45 (0,0)):=by rw [hW1];exact heap_alloc2_old _ _ _
 have hfd:W1.heap[w.heap.size+1]? = some (.cells #[.int .i64 0,.int .i64 0,.slice none 0 0,.int .i64 0] 73 (0,0)):=by rw [hW1];exact heap_al_al _ _ _
 have zW:w.heap.size+1<W1.heap.size:=lt_of_at hfd
 have BX:Hid (∀ ww,Same0 W1 ww→ww.cell? ⟨w.heap.size,0,none⟩=some (.slice io I.length ic)∧ww.cell? ⟨w.heap.size,1,none⟩=some (.slice po P.length pc)∧ww.cell? ⟨w.heap.size,2,none⟩=some (.slice eo E.length ec)∧ww.cell? ⟨w.heap.size,3,none⟩=some (.slice ro rl rc)):=fun ww hk=>by
  have:=hk.at0 hbx
  exact ⟨cellAt this 0,cellAt this 1,cellAt this 2,cellAt this 3⟩
 have RC:Hid (∀ ww,Same0 W1 ww→(ww.cell? ⟨w.heap.size+1,0,none⟩=some (.int .i64 0)∧ww.cell? ⟨w.heap.size+1,1,none⟩=some (.int .i64 0)∧ww.cell? ⟨w.heap.size+1,2,none⟩=some (.slice none 0 0)∧ww.cell? ⟨w.heap.size+1,3,none⟩=some (.int .i64 0))∧ww.frozen? ⟨w.heap.size+1,0,none⟩=false∧ww.frozen? ⟨w.heap.size+1,1,none⟩=false∧ww.frozen? ⟨w.heap.size+1,2,none⟩=false∧ww.frozen? ⟨w.heap.size+1,3,none⟩=false):=fun ww hk=>by
  have:=hk.at0 hfd
  exact ⟨⟨cellAt this 0,cellAt this 1,cellAt this 2,cellAt this 3⟩,frozenAt this 0,frozenAt this 1,frozenAt this 2,frozenAt this 3⟩
 have PUT:Hid (∀ ww x0 x1 x2 x3,Same0 W1 ww→(((((ww.setCell ⟨w.heap.size+1,0,none⟩ x0).setCell ⟨w.heap.size+1,1,none⟩ x1).setCell ⟨w.heap.size+1,2,none⟩ x2).setCell ⟨w.heap.size+1,3,none⟩ x3).cell? ⟨w.heap.size+1,0,none⟩=some x0∧((((ww.setCell ⟨w.heap.size+1,0,none⟩ x0).setCell ⟨w.heap.size+1,1,none⟩ x1).setCell ⟨w.heap.size+1,2,none⟩ x2).setCell ⟨w.heap.size+1,3,none⟩ x3).cell? ⟨w.heap.size+1,1,none⟩=some x1∧((((ww.setCell ⟨w.heap.size+1,0,none⟩ x0).setCell ⟨w.heap.size+1,1,none⟩ x1).setCell ⟨w.heap.size+1,2,none⟩ x2).setCell ⟨w.heap.size+1,3,none⟩ x3).cell? ⟨w.heap.size+1,2,none⟩=some x2∧((((ww.setCell ⟨w.heap.size+1,0,none⟩ x0).setCell ⟨w.heap.size+1,1,none⟩ x1).setCell ⟨w.heap.size+1,2,none⟩ x2).setCell ⟨w.heap.size+1,3,none⟩ x3).cell? ⟨w.heap.size+1,3,none⟩=some x3)∧Kept (fun q=>q=w.heap.size+1) ww ((((ww.setCell ⟨w.heap.size+1,0,none⟩ x0).setCell ⟨w.heap.size+1,1,none⟩ x1).setCell ⟨w.heap.size+1,2,none⟩ x2).setCell ⟨w.heap.size+1,3,none⟩ x3)∧Same0 w ((((ww.setCell ⟨w.heap.size+1,0,none⟩ x0).setCell ⟨w.heap.size+1,1,none⟩ x1).setCell ⟨w.heap.size+1,2,none⟩ x2).setCell ⟨w.heap.size+1,3,none⟩ x3)):=by
  intro ww x0 x1 x2 x3 hk
  have rs:=hk.at0 hfd
  have s3:=setAt (setAt (setAt (setAt rs 0 x0) 1 x1) 2 x2) 3 x3
  have k1:=kept_at ww (w.heap.size+1) 0 x0
  have k2:=Kept.trans k1 (kept_at _ (w.heap.size+1) 1 x1) (fun _ _ e=>e)
  have k3:=Kept.trans k2 (kept_at _ (w.heap.size+1) 2 x2) (fun _ _ e=>e)
  have k4:=Kept.trans k3 (kept_at _ (w.heap.size+1) 3 x3) (fun _ _ e=>e)
  exact ⟨⟨cellAt s3 0,cellAt s3 1,cellAt s3 2,cellAt s3 3⟩,k4,Kept.trans (KW.trans' hk) k4 (fun i hi e=>by omega)⟩
 have HI:Hid (∀ ww j (hj:j<I.length),Same0 w ww→∃ b off,io=some ⟨b,off,none⟩∧ww.cell? ⟨b,off+j * 3,none⟩=some (.int .i64 I[j].1)∧ww.cell? ⟨b,off+j * 3+1,none⟩=some (.int .i64 I[j].2.1)∧ww.cell? ⟨b,off+j * 3+2,none⟩=some (.int .i64 I[j].2.2)):=fun ww j hj hk=>by
  obtain ⟨b,off,e,_,h0,h1,h2⟩:=(hI.same hk).get hj
  exact ⟨b,off,e,h0,h1,h2⟩
 have HPT:Hid (∀ ww j (hj:j<P.length),Same0 w ww→∃ b off ao ac,po=some ⟨b,off,none⟩∧ww.cell? ⟨b,off+j,none⟩=some (.slice ao P[j].length ac)∧Arg ww ao P[j] ac):=fun ww j hj hk=>by
  obtain ⟨b,off,ao,ac,e,_,h0,h1⟩:=(hP.same hk).get hj
  exact ⟨b,off,ao,ac,e,h0,h1⟩
 have RET:Hid (∀ ww k r err,Same0 w ww→R=(k,r,[],0,err)→FndOut w R (.returned (.tuple #[.agg #[.int .i64 k,.int .i64 r,.slice none 0 0,.int .i64 0],.int .i64 err])) ww):=fun ww k r err hk e=>by
  rw [e]
  exact ⟨none,0,rfl,World.ownsRow_nil _ _ _ _,hk⟩
 have HEN:Hid (∀ ww j (hj:j<E.length),Same0 w ww→∃ b off,eo=some ⟨b,off,none⟩∧ww.cell? ⟨b,off+j,none⟩=some (.int .i64 E[j])):=fun ww j hj hk=>by
  obtain ⟨b,off,e,_,h0⟩:=(hE.same hk).get hj
  exact ⟨b,off,e,h0⟩
 obtain ⟨x0,x1,x2,x3⟩:=BX.out W1 (Kept.refl _ _)
 clear hI hP hE hbx hfd hr hT hTm
 cases hb:hasB E n0 with
 | false=>
  have FR:Hid (R=(0,0,[],0,90)):=by show _=_;rw [hR,codeF,if_neg (by rw [hb];simp)]
  obtain ⟨⟨r0,r1,r2,r3⟩,f0,f1,f2,f3⟩:=RC.out W1 (Kept.refl _ _)
  have PH:Hid _:=PUT.out W1 (.int .i64 0) (.int .i64 0) (.slice none 0 0) (.int .i64 0) (Kept.refl _ _)
  clear hR HI HPT CRH CRA
  by_cases h0:n0<0
  ·clear hb HEN
   go_enter Tryz.func26,Tryz.ntmps26
   go_upto_region 1 with fail
   rw [← hW1]
   clear hW1
   as_aux_lemma=>
    go_wp2_with fail
    obtain ⟨⟨q0,q1,q2,q3⟩,kk,ks⟩:=PH.out
    exact bodyPost_ret (v:=.tuple #[.agg #[.int .i64 0,.int .i64 0,.slice none 0 0,.int .i64 0],.int .i64 90]) (by simp [results,Tryz.results26,go_sem,q0,q1,q2,q3]) rfl (RET.out _ _ _ _ ks FR.out)
  ·by_cases h1:n0<(E.length:Int)
   ·obtain ⟨i,rfl⟩:∃ i:Nat,n0=(i:Int):=⟨n0.toNat,by omega⟩
    have hi:i<E.length:=by omega
    have hneg:E[i]<0:=by
     unfold hasB at hb
     simp [idxB,hi] at hb
     omega
    obtain ⟨eb,eoff,rfl,he⟩:=HEN.out W1 i hi KW
    have i1:(0:Int)≤(i:Int):=by omega
    generalize E[i]=z at *
    clear hb HEN
    go_enter Tryz.func26,Tryz.ntmps26
    go_upto_region 1 with fail
    rw [← hW1]
    clear hW1
    as_aux_lemma=>
     go_wp2_with fail
     obtain ⟨⟨q0,q1,q2,q3⟩,kk,ks⟩:=PH.out
     exact bodyPost_ret (v:=.tuple #[.agg #[.int .i64 0,.int .i64 0,.slice none 0 0,.int .i64 0],.int .i64 90]) (by simp [results,Tryz.results26,go_sem,q0,q1,q2,q3]) rfl (RET.out _ _ _ _ ks FR.out)
   ·clear hb HEN
    go_enter Tryz.func26,Tryz.ntmps26
    go_upto_region 1 with fail
    rw [← hW1]
    clear hW1
    as_aux_lemma=>
     go_wp2_with fail
     obtain ⟨⟨q0,q1,q2,q3⟩,kk,ks⟩:=PH.out
     exact bodyPost_ret (v:=.tuple #[.agg #[.int .i64 0,.int .i64 0,.slice none 0 0,.int .i64 0],.int .i64 90]) (by simp [results,Tryz.results26,go_sem,q0,q1,q2,q3]) rfl (RET.out _ _ _ _ ks FR.out)
 | true=>
  have hb2:=hb
  unfold hasB at hb2
  simp only [Bool.and_eq_true,decide_eq_true_eq] at hb2
  obtain ⟨i,rfl,hil⟩:=idx_yes hb2.1
  have hei:E.getD ((i:Int)).toNat (-1)=E[i]:=by rw [Int.toNat_natCast];simp [hil]
  have h0:0≤E[i]:=by have:=hb2.2;rw [hei] at this;exact this
  obtain ⟨a0,ha0⟩:∃ a0:Nat,E[i]=(a0:Int):=⟨E[i].toNat,by omega⟩
  have HR:Hid (R=runF L ok T I P E node (I.length+1) a0):=by show _=_;rw [hR,codeF,if_pos hb,hei,ha0,Int.toNat_natCast]
  obtain ⟨eb,eoff,rfl,he⟩:=HEN.out W1 i hil KW
  rw [ha0] at he
  have i1:(0:Int)≤(i:Int):=by omega
  have i2:(i:Int)<(E.length:Int):=by omega
  have j1:¬ (a0:Int)<0:=by omega
  clear hb hb2 hei h0 ha0 hR
  go_enter Tryz.func26,Tryz.ntmps26
  go_upto_region 1 with fail
  rw [← hW1]
  clear hW1
  go_wp2_with fail
  go_loopw [12] (fun s1 wr=>∃ a f:Nat,s1=.int .i64 (a:Int)∧Hid (I.length<a+(f+1)∧R=runF L ok T I P E node (f+1) a)∧Same0 W1 wr) (fun s1 _=>I.length-(intOf s1).toNat)
  case atStart=>exact ⟨a0,I.length,rfl,⟨by omega,HR.out⟩,Kept.refl _ _⟩
  case round=>
   clear x0 x1 x2 x3 HR he
   obtain ⟨a,f,rfl,hF,hK⟩:=hrel
   obtain ⟨x0,x1,x2,x3⟩:=BX.out wr hK
   obtain ⟨⟨r0,r1,r2,r3⟩,f0,f1,f2,f3⟩:=RC.out wr hK
   have a1:(0:Int)≤(a:Int):=by omega
   by_cases hlt:a<I.length
   ·obtain ⟨b,off,rfl,c0,c1,c2⟩:=HI.out wr a hlt (KW.trans' hK)
    have a2:(a:Int)<(I.length:Int):=by omega
    obtain ⟨hf1,hf2⟩:=hF.out
    rw [runF_in hlt] at hf2
    obtain ⟨wi,hwi⟩:∃ wi,wi=wr.alloc (.cells #[.int .i64 I[a].1,.int .i64 I[a].2.1,.int .i64 I[a].2.2] 34):=⟨_,rfl⟩
    have ki:Same0 wr wi:=by rw [hwi];exact (Kept.refl _ _).alloc _
    have bi:wi.heap[wr.heap.size]? = some (.cells #[.int .i64 I[a].1,.int .i64 I[a].2.1,.int .i64 I[a].2.2] 34 (0,0)):=by rw [hwi];exact heap_alloc_new _ _
    have y0:=cellAt bi 0
    have y1:=cellAt bi 1
    have y2:=cellAt bi 2
    simp only [List.getElem?_toArray,List.getElem?_cons_zero,List.getElem?_cons_succ] at y0 y1 y2
    have hKi:=hK.trans' ki
    obtain ⟨v0,v1,v2,v3⟩:=BX.out wi hKi
    obtain ⟨⟨s0,s1,s2,s3⟩,g0,g1,g2,g3⟩:=RC.out wi hKi
    by_cases h4:I[a].1=4
    ·rw [if_pos h4] at hf2
     rw [h4] at c0 y0 hwi
     have PH:Hid _:=PUT.out wi (.int .i64 1) (.int .i64 I[a].2.1) (.slice none 0 0) (.int .i64 0) hKi
     have FR:Hid (R=(1,I[a].2.1,[],0,0)):=hf2
     generalize I[a].2.1=z at *
     clear hf1 hf2 hF HI HPT h4 HEN CRH CRA
     as_aux_lemma=>
      go_upto_region 6 with fail
      rw [← hwi]
      clear hwi
      go_wp2_with fail
      obtain ⟨⟨q0,q1,q2,q3⟩,kk,ks⟩:=PH.out
      exact bodyPost_ret (v:=.tuple #[.agg #[.int .i64 1,.int .i64 z,.slice none 0 0,.int .i64 0],.int .i64 0]) (by simp [results,Tryz.results26,go_sem,q0,q1,q2,q3]) rfl (RET.out _ _ _ _ ks FR.out)
    ·rw [if_neg h4] at hf2
     by_cases h3:I[a].1=3
     ·rw [if_pos h3] at hf2
      rw [h3] at c0 y0 hwi
      have PH:Hid _:=PUT.out wi (.int .i64 2) (.int .i64 0) (.slice none 0 0) (.int .i64 0) hKi
      have FR:Hid (R=(2,0,[],0,0)):=hf2
      clear hf1 hf2 hF HI HPT h4 h3 HEN CRH CRA
      as_aux_lemma=>
       go_upto_region 6 with fail
       rw [← hwi]
       clear hwi
       go_wp2_with fail
       obtain ⟨⟨q0,q1,q2,q3⟩,kk,ks⟩:=PH.out
       exact bodyPost_ret (v:=.tuple #[.agg #[.int .i64 2,.int .i64 0,.slice none 0 0,.int .i64 0],.int .i64 0]) (by simp [results,Tryz.results26,go_sem,q0,q1,q2,q3]) rfl (RET.out _ _ _ _ ks FR.out)
     ·rw [if_neg h3] at hf2
      have PH:Hid _:=PUT.out wi (.int .i64 0) (.int .i64 0) (.slice none 0 0) (.int .i64 0) hKi
      by_cases h1:I[a].1=1∧idxB I[a].2.1 P.length=true
      ·rw [if_pos h1] at hf2
       obtain ⟨h11,hix⟩:=h1
       obtain ⟨q,hq,hql⟩:=idx_yes hix
       have eg:P.getD I[a].2.1.toNat []=P[q]:=by rw [hq,Int.toNat_natCast];simp [hql]
       rw [eg] at hf2
       rw [h11] at c0 y0 hwi
       rw [hq] at c1 y1 hwi
       obtain ⟨pb,poff,qo,qc,rfl,p0,hA⟩:=HPT.out wi q hql (KW.trans' hKi)
       have hAl:P[q].length≤17592186043904:=by have:=hA.size;omega
       have HS:Hid (∀ ww,Same0 wi ww→(ww.cell? ⟨w.heap.size,0,none⟩=some (.slice (some ⟨b,off,none⟩) I.length ic)∧ww.cell? ⟨w.heap.size,1,none⟩=some (.slice (some ⟨pb,poff,none⟩) P.length pc)∧ww.cell? ⟨w.heap.size,2,none⟩=some (.slice (some ⟨eb,eoff,none⟩) E.length ec)∧ww.cell? ⟨wr.heap.size,1,none⟩=some (.int .i64 (q:Int))∧ww.cell? ⟨pb,poff+q,none⟩=some (.slice qo P[q].length qc))∧IntsAt ww qo P[q]):=fun ww hk=>by
        obtain ⟨t0,t1,t2,t3⟩:=BX.out ww (hKi.trans' hk)
        exact ⟨⟨t0,t1,t2,(hk.cell (p:=⟨wr.heap.size,1,none⟩) (lt_of_at bi) (fun f=>f)).trans y1,(hk.cell (p:=⟨pb,poff+q,none⟩) (World.block_lt_of_cell? _ _ p0) (fun f=>f)).trans p0⟩,hA.at'.same hk⟩
       have q1:(0:Int)≤(q:Int):=by omega
       have q2:(q:Int)<(P.length:Int):=by omega
       have q3:¬ (q:Int)<0:=by omega
       have NX:Hid (I.length<a+(f+1)∧R=match lookF L ok T I E node a P[q] with | .inl r=>r | .inr z=>runF L ok T I P E node f z.toNat):=⟨hf1,hf2⟩
       have HQN:Hid (qo=none→P[q].length=0∧qc=0):=hA.nil
       clear hf1 hf2 hF HPT h4 h3 eg hix hA PH bi
       generalize P[q]=pth at *
       generalize I[a].2.2=ib2 at *
       go_upto_region 6 with fail
       rw [← hwi]
       clear hwi
       go_wp2_with fail
       obtain ⟨wo,rfl⟩:∃ wo,wo=wr:=⟨_,rfl⟩
       go_loopw [14,15] (fun s14 s15 wl=>∃ k:Nat,k≤pth.length∧s14=.int .i64 (wayI L ok T node (pth.take k))∧s15=.int .i64 (k:Int)∧Same0 wi wl) (fun _ s15 _=>pth.length-(intOf s15).toNat)
       case atStart=>exact ⟨0,Nat.zero_le _,by simp [wayI],rfl,Kept.refl _ _⟩
       case round=>
        clear v0 v1 v2 v3 s0 s1 s2 s3 g0 g1 g2 g3 y0 y1 y2 x0 x1 x2 x3 r0 r1 r2 r3 f0 f1 f2 f3 c0 c1 c2
        obtain ⟨k,hk,rfl,rfl,hs⟩:=hrel
        obtain ⟨wl,rfl⟩:∃ wl,wl=wr:=⟨_,rfl⟩
        obtain ⟨⟨t0,t1,t2,t3,t4⟩,hpth⟩:=HS.out wl hs
        by_cases hkl:k<pth.length
        ·obtain ⟨ab,aoff,rfl,hab,hac⟩:=hpth.get hkl
         have E1:Hid (wayI L ok T node (pth.take (k+1))=argI L ok T (wayI L ok T node (pth.take k)) pth[k]):=wayI_take hkl
         have e1:=CRA.out wl (wayI L ok T node (pth.take k)) pth[k] (KW.trans' (hKi.trans' hs))
         have k1:(0:Int)≤(k:Int):=by omega
         have k2:(k:Int)<(pth.length:Int):=by omega
         clear NX HI HEN CRH
         generalize wayI L ok T node (pth.take k)=y at *
         generalize pth[k]=yy at *
         as_aux_lemma=>
          go_wp2_with (first | (go_at_call 32;refine e1.mono ?_;rintro e w2 ⟨rfl,k3⟩))
          go_roundw
          case rel=>first | exact ⟨k+1,by omega,by rw [E1.out],by go_num,hs.trans' k3⟩ | ((repeat apply Exists.intro);exact ⟨⟨k+1,by omega,by rw [E1.out],by go_num,hs.trans' k3⟩,rfl⟩)
          case measure=>simp [intOf];omega
        ·obtain rfl:k=pth.length:=by omega
         rw [List.take_length]
         have e1:=CRH.out wl (wayI L ok T node pth) (KW.trans' (hKi.trans' hs))
         have LK:Hid (lookF L ok T I E node a pth=if (caseF I (headI ok T (wayI L ok T node pth)) (a+1)).2=true then (if (I.getD (caseF I (headI ok T (wayI L ok T node pth)) (a+1)).1 (0,0,0)).2.2≤((caseF I (headI ok T (wayI L ok T node pth)) (a+1)).1:Int) then .inl bad5 else .inr (I.getD (caseF I (headI ok T (wayI L ok T node pth)) (a+1)).1 (0,0,0)).2.2) else if hasB E (headI ok T (wayI L ok T node pth))=true then .inl (3,0,pth,wayI L ok T node pth,0) else .inr ((caseF I (headI ok T (wayI L ok T node pth)) (a+1)).1:Int)):=rfl
         have GT:Hid (∀ z,lookF L ok T I E node a pth=.inr z→(a:Int)<z):=fun z e=>lookF_gt hlt e
         generalize lookF L ok T I E node a pth=lk at *
         generalize wayI L ok T node pth=y at *
         generalize headI ok T y=hd at *
         go_wp2_with (first | (go_at_call 30;refine e1.mono ?_;rintro e w2 ⟨rfl,rfl⟩))
         obtain ⟨w3,rfl⟩:∃ w3,w3=w2:=⟨_,rfl⟩
         clear t0 t1 t2 t3 t4 hpth
         go_loopw [12,17] (fun s12 s17 wx=>Same0 wi wx∧((∃ j:Nat,a+1≤j∧j≤I.length∧s12=.int .i64 (j:Int)∧s17=.bool false∧Hid (caseF I hd (a+1)=caseF I hd j))∨(∃ z:Int,s12=.int .i64 z∧s17=.bool true∧Hid (lk=.inr z)))) (fun s12 s17 _=>match s17 with | .bool true=>0 | _=>I.length+1-(intOf s12).toNat)
         case atStart=>exact ⟨hs,.inl ⟨a+1,Nat.le_refl _,by omega,by go_num,rfl,rfl⟩⟩
         case round=>
          obtain ⟨hx,hrel⟩:=hrel
          obtain ⟨wx,rfl⟩:∃ wx,wx=wr:=⟨_,rfl⟩
          obtain ⟨⟨t0,t1,t2,t3,t4⟩,hpth⟩:=HS.out wx hx
          rcases hrel with ⟨j,hj1,hj2,rfl,rfl,hj⟩ | ⟨z,rfl,rfl,hz⟩
          ·have j0:(0:Int)≤(j:Int):=by omega
           by_cases hjl:j<I.length
           ·have j1:(j:Int)<(I.length:Int):=by omega
            obtain ⟨b', off', ee,d0,d1,d2⟩:=HI.out wx j hjl (KW.trans' (hKi.trans' hx))
            cases ee
            have st:=caseF_step (s:=hd) hjl
            by_cases o2:I[j].1=2
            ·rw [if_pos o2] at st
             rw [o2] at d0
             by_cases hA:I[j].2.1=hd
             ·rw [if_pos hA] at st
              rw [hA] at d1
              by_cases hBj:I[j].2.2≤(j:Int)
              ·have FR:Hid (R=(0,0,[],0,92)):=by
                obtain ⟨n1,n2⟩:=NX.out
                rw [LK.out,hj.out,st] at n2
                simp [hjl,hBj,bad5] at n2
                exact n2
               have PH:Hid _:=PUT.out wx (.int .i64 0) (.int .i64 0) (.slice none 0 0) (.int .i64 0) (hKi.trans' hx)
               obtain ⟨⟨r0,r1,r2,r3⟩,f0,f1,f2,f3⟩:=RC.out wx (hKi.trans' hx)
               clear NX GT LK hj st HI HEN CRH CRA
               generalize I[j].2.2=zz at *
               as_aux_lemma=>
                go_wp2_with fail
                obtain ⟨⟨q0,q1,q2,q3⟩,kk,ks⟩:=PH.out
                exact bodyPost_ret (v:=.tuple #[.agg #[.int .i64 0,.int .i64 0,.slice none 0 0,.int .i64 0],.int .i64 92]) (by simp [results,Tryz.results26,go_sem,q0,q1,q2,q3]) rfl (RET.out _ _ _ _ ks FR.out)
              ·have hlk:Hid (lk=.inr I[j].2.2):=by show _=_;rw [LK.out,hj.out,st];simp [hjl,hBj]
               clear NX GT LK hj st HI HEN CRH CRA
               generalize I[j].2.2=zz at *
               as_aux_lemma=>
                go_wp2_with fail
                go_roundw
                case rel=>first | exact ⟨hx,.inr ⟨zz,rfl,rfl,hlk⟩⟩ | ((repeat apply Exists.intro);exact ⟨⟨hx,.inr ⟨zz,rfl,rfl,hlk⟩⟩,rfl⟩)
                case measure=>simp [intOf];omega
             ·rw [if_neg hA] at st
              have hj3:Hid (caseF I hd (a+1)=caseF I hd (j+1)):=by show _=_;rw [hj.out,st]
              clear NX GT LK hj st HI HEN CRH CRA
              generalize I[j].2.1=yy at *
              as_aux_lemma=>
               go_wp2_with fail
               go_roundw
               case rel=>first | exact ⟨hx,.inl ⟨j+1,by omega,by omega,by go_num,rfl,hj3⟩⟩ | ((repeat apply Exists.intro);exact ⟨⟨hx,.inl ⟨j+1,by omega,by omega,by go_num,rfl,hj3⟩⟩,rfl⟩)
               case measure=>simp [intOf];omega
            ·rw [if_neg o2] at st
             have LK2:Hid (lk=if hasB E hd=true then .inl (3,0,pth,y,0) else .inr (j:Int)):=by show _=_;rw [LK.out,hj.out,st];rfl
             have HM:Hid (I.length-j<I.length-a):=by show _<_;omega
             have M0:Hid (hasB E hd=false→I.length<j+(f+1)∧R=runF L ok T I P E node (f+1) j):=fun e=>by
              obtain ⟨n1,n2⟩:=NX.out
              rw [LK2.out,e] at n2
              refine ⟨by omega,?_⟩
              rw [← runF_more f (f+1) j (by omega) (by omega)]
              simpa using n2
             have MD:Hid (hasB E hd=true→R=(3,0,pth,y,0)):=fun e=>by
              obtain ⟨n1,n2⟩:=NX.out
              rw [LK2.out,e] at n2
              simpa using n2
             clear NX GT LK LK2 hj st CRH CRA
             generalize I[j].1=op at *
             by_cases d9:hd<0
             ·have M:Hid _:=M0.out (by simp [hasB,idxB];omega)
              clear HI HEN M0 MD
              as_aux_lemma=>
               go_upto_region 27 with fail
               go_wp2_with fail
               go_roundw
               case rel=>first | exact ⟨j,f,rfl,M,hKi.trans' hx⟩ | ((repeat apply Exists.intro);exact ⟨⟨j,f,rfl,M,hKi.trans' hx⟩,rfl⟩)
               case measure=>simp only [intOf];rw [Int.toNat_natCast,Int.toNat_natCast];exact HM.out
             ·by_cases d8:hd<(E.length:Int)
              ·obtain ⟨hn,rfl⟩:∃ hn:Nat,hd=(hn:Int):=⟨hd.toNat,by omega⟩
               have hnl:hn<E.length:=by omega
               have hn0:(0:Int)≤(hn:Int):=by omega
               obtain ⟨eb', eoff', ee,hec⟩:=HEN.out wx hn hnl (KW.trans' (hKi.trans' hx))
               cases ee
               by_cases d7:E[hn]<0
               ·have M:Hid _:=M0.out (by simp [hasB,idxB,hnl];omega)
                have d6:¬ 0≤E[hn]:=by omega
                clear HI HEN M0 MD
                generalize E[hn]=ez at *
                as_aux_lemma=>
                 go_upto_region 27 with fail
                 go_wp2_with fail
                 go_roundw
                 case rel=>first | exact ⟨j,f,rfl,M,hKi.trans' hx⟩ | ((repeat apply Exists.intro);exact ⟨⟨j,f,rfl,M,hKi.trans' hx⟩,rfl⟩)
                 case measure=>simp only [intOf];rw [Int.toNat_natCast,Int.toNat_natCast];exact HM.out
               ·have DR:Hid (R=(3,0,pth,y,0)):=MD.out (by simp [hasB,idxB,hnl];omega)
                have d6:0≤E[hn]:=by omega
                have zx:=(hKi.trans' hx).size
                have zw:=KW.size
                clear HI HEN M0 MD HM
                generalize E[hn]=ez at *
                have k4:Same0 wx (wx.alloc (.cells #[] 3)):=(Kept.refl _ _).alloc _
                have e0:Row wx.heap.size (wx.alloc (.cells #[] 3)) (.slice (some ⟨wx.heap.size,0,none⟩) 0 0) []:=row_empty wx wx.heap.size (Nat.le_refl _) rfl
                have z4:=k4.size
                have cI:=hpth.same k4
                obtain ⟨u0,u1,u2,u3,u4⟩:(wx.alloc (.cells #[] 3)).cell? ⟨w.heap.size,0,none⟩=some (.slice (some ⟨b,off,none⟩) I.length ic)∧(wx.alloc (.cells #[] 3)).cell? ⟨w.heap.size,1,none⟩=some (.slice (some ⟨pb,poff,none⟩) P.length pc)∧(wx.alloc (.cells #[] 3)).cell? ⟨w.heap.size,2,none⟩=some (.slice (some ⟨eb,eoff,none⟩) E.length ec)∧(wx.alloc (.cells #[] 3)).cell? ⟨wo.heap.size,1,none⟩=some (.int .i64 (q:Int))∧(wx.alloc (.cells #[] 3)).cell? ⟨pb,poff+q,none⟩=some (.slice qo pth.length qc):=(HS.out _ (hx.trans' k4)).1
                have HN9:=HQN.out
                have z5:(([]:List Int).length+pth.length) * 8≤140737488355328:=by simp;omega
                as_aux_lemma=>
                 go_upto_region 28 with fail
                 go_wp2_with (first | (at_builtin;refine wpList_more9 rfl _ _ 22 rfl Tryz.underlying22 wx.heap.size [] (.slice (some ⟨wx.heap.size,0,none⟩) 0 0) rfl e0 pth qo pth.length qc rfl rfl cI HN9 z4 z5 ?_;intro v1 w1 hr1 hk1;have s1:=k4.onto e0 hk1;rw [List.nil_append] at hr1;obtain ⟨vo,vc,rfl⟩:=row_shape hr1;have K1:=(hKi.trans' hx).trans' s1;obtain ⟨⟨r0,r1,r2,r3⟩,f0,f1,f2,f3⟩:=RC.out w1 K1;have PH:Hid _:=PUT.out w1 (.int .i64 3) (.int .i64 0) (.slice vo pth.length vc) (.int .i64 y) K1))
                 obtain ⟨⟨q0,q1,q2,q3⟩,kk,ks⟩:=PH.out
                 refine bodyPost_ret (v:=.tuple #[.agg #[.int .i64 3,.int .i64 0,.slice vo pth.length vc,.int .i64 y],.int .i64 0]) (by simp [results,Tryz.results26,go_sem,q0,q1,q2,q3]) rfl ?_
                 rw [DR.out]
                 refine ⟨vo,vc,rfl,row_mono (kk.row hr1 (fun q q1 q2=>?_)) (by omega),ks⟩
                 have:=row_base hr1 q1
                 have e3:q=w.heap.size+1:=q2
                 omega
              ·have M:Hid _:=M0.out (by simp [hasB,idxB];omega)
               clear HI HEN M0 MD
               as_aux_lemma=>
                go_upto_region 27 with fail
                go_wp2_with fail
                go_roundw
                case rel=>first | exact ⟨j,f,rfl,M,hKi.trans' hx⟩ | ((repeat apply Exists.intro);exact ⟨⟨j,f,rfl,M,hKi.trans' hx⟩,rfl⟩)
                case measure=>simp only [intOf];rw [Int.toNat_natCast,Int.toNat_natCast];exact HM.out
           ·have st:caseF I hd j=(j,false):=caseF_end (by omega)
            have j1:¬ (j:Int)<(I.length:Int):=by omega
            have LK2:Hid (lk=if hasB E hd=true then .inl (3,0,pth,y,0) else .inr (j:Int)):=by show _=_;rw [LK.out,hj.out,st];rfl
            have HM:Hid (I.length-j<I.length-a):=by show _<_;omega
            have M0:Hid (hasB E hd=false→I.length<j+(f+1)∧R=runF L ok T I P E node (f+1) j):=fun e=>by
             obtain ⟨n1,n2⟩:=NX.out
             rw [LK2.out,e] at n2
             refine ⟨by omega,?_⟩
             rw [← runF_more f (f+1) j (by omega) (by omega)]
             simpa using n2
            have MD:Hid (hasB E hd=true→R=(3,0,pth,y,0)):=fun e=>by
             obtain ⟨n1,n2⟩:=NX.out
             rw [LK2.out,e] at n2
             simpa using n2
            clear NX GT LK LK2 hj st CRH CRA
            by_cases d9:hd<0
            ·have M:Hid _:=M0.out (by simp [hasB,idxB];omega)
             clear HI HEN M0 MD
             as_aux_lemma=>
              go_upto_region 27 with fail
              go_wp2_with fail
              go_roundw
              case rel=>first | exact ⟨j,f,rfl,M,hKi.trans' hx⟩ | ((repeat apply Exists.intro);exact ⟨⟨j,f,rfl,M,hKi.trans' hx⟩,rfl⟩)
              case measure=>simp only [intOf];rw [Int.toNat_natCast,Int.toNat_natCast];exact HM.out
            ·by_cases d8:hd<(E.length:Int)
             ·obtain ⟨hn,rfl⟩:∃ hn:Nat,hd=(hn:Int):=⟨hd.toNat,by omega⟩
              have hnl:hn<E.length:=by omega
              have hn0:(0:Int)≤(hn:Int):=by omega
              obtain ⟨eb', eoff', ee,hec⟩:=HEN.out wx hn hnl (KW.trans' (hKi.trans' hx))
              cases ee
              by_cases d7:E[hn]<0
              ·have M:Hid _:=M0.out (by simp [hasB,idxB,hnl];omega)
               have d6:¬ 0≤E[hn]:=by omega
               clear HI HEN M0 MD
               generalize E[hn]=ez at *
               as_aux_lemma=>
                go_upto_region 27 with fail
                go_wp2_with fail
                go_roundw
                case rel=>first | exact ⟨j,f,rfl,M,hKi.trans' hx⟩ | ((repeat apply Exists.intro);exact ⟨⟨j,f,rfl,M,hKi.trans' hx⟩,rfl⟩)
                case measure=>simp only [intOf];rw [Int.toNat_natCast,Int.toNat_natCast];exact HM.out
              ·have DR:Hid (R=(3,0,pth,y,0)):=MD.out (by simp [hasB,idxB,hnl];omega)
               have d6:0≤E[hn]:=by omega
               have zx:=(hKi.trans' hx).size
               have zw:=KW.size
               clear HI HEN M0 MD HM
               generalize E[hn]=ez at *
               have k4:Same0 wx (wx.alloc (.cells #[] 3)):=(Kept.refl _ _).alloc _
               have e0:Row wx.heap.size (wx.alloc (.cells #[] 3)) (.slice (some ⟨wx.heap.size,0,none⟩) 0 0) []:=row_empty wx wx.heap.size (Nat.le_refl _) rfl
               have z4:=k4.size
               have cI:=hpth.same k4
               obtain ⟨u0,u1,u2,u3,u4⟩:(wx.alloc (.cells #[] 3)).cell? ⟨w.heap.size,0,none⟩=some (.slice (some ⟨b,off,none⟩) I.length ic)∧(wx.alloc (.cells #[] 3)).cell? ⟨w.heap.size,1,none⟩=some (.slice (some ⟨pb,poff,none⟩) P.length pc)∧(wx.alloc (.cells #[] 3)).cell? ⟨w.heap.size,2,none⟩=some (.slice (some ⟨eb,eoff,none⟩) E.length ec)∧(wx.alloc (.cells #[] 3)).cell? ⟨wo.heap.size,1,none⟩=some (.int .i64 (q:Int))∧(wx.alloc (.cells #[] 3)).cell? ⟨pb,poff+q,none⟩=some (.slice qo pth.length qc):=(HS.out _ (hx.trans' k4)).1
               have HN9:=HQN.out
               have z5:(([]:List Int).length+pth.length) * 8≤140737488355328:=by simp;omega
               as_aux_lemma=>
                go_upto_region 28 with fail
                go_wp2_with (first | (at_builtin;refine wpList_more9 rfl _ _ 22 rfl Tryz.underlying22 wx.heap.size [] (.slice (some ⟨wx.heap.size,0,none⟩) 0 0) rfl e0 pth qo pth.length qc rfl rfl cI HN9 z4 z5 ?_;intro v1 w1 hr1 hk1;have s1:=k4.onto e0 hk1;rw [List.nil_append] at hr1;obtain ⟨vo,vc,rfl⟩:=row_shape hr1;have K1:=(hKi.trans' hx).trans' s1;obtain ⟨⟨r0,r1,r2,r3⟩,f0,f1,f2,f3⟩:=RC.out w1 K1;have PH:Hid _:=PUT.out w1 (.int .i64 3) (.int .i64 0) (.slice vo pth.length vc) (.int .i64 y) K1))
                obtain ⟨⟨q0,q1,q2,q3⟩,kk,ks⟩:=PH.out
                refine bodyPost_ret (v:=.tuple #[.agg #[.int .i64 3,.int .i64 0,.slice vo pth.length vc,.int .i64 y],.int .i64 0]) (by simp [results,Tryz.results26,go_sem,q0,q1,q2,q3]) rfl ?_
                rw [DR.out]
                refine ⟨vo,vc,rfl,row_mono (kk.row hr1 (fun q q1 q2=>?_)) (by omega),ks⟩
                have:=row_base hr1 q1
                have e3:q=w.heap.size+1:=q2
                omega
             ·have M:Hid _:=M0.out (by simp [hasB,idxB];omega)
              clear HI HEN M0 MD
              as_aux_lemma=>
               go_upto_region 27 with fail
               go_wp2_with fail
               go_roundw
               case rel=>first | exact ⟨j,f,rfl,M,hKi.trans' hx⟩ | ((repeat apply Exists.intro);exact ⟨⟨j,f,rfl,M,hKi.trans' hx⟩,rfl⟩)
               case measure=>simp only [intOf];rw [Int.toNat_natCast,Int.toNat_natCast];exact HM.out
          ·have hgt:=GT.out z hz.out
           obtain ⟨zn,rfl⟩:∃ zn:Nat,z=(zn:Int):=⟨z.toNat,by omega⟩
           have M:Hid (I.length<zn+(f+1)∧R=runF L ok T I P E node (f+1) zn):=by
            obtain ⟨n1,n2⟩:=NX.out
            rw [hz.out] at n2
            refine ⟨by omega,?_⟩
            rw [← runF_more f (f+1) zn (by omega) (by omega)]
            simpa using n2
           have HM:Hid (I.length-zn<I.length-a):=by show _<_;omega
           have z0:(0:Int)≤(zn:Int):=by omega
           clear NX GT LK hgt hz HEN CRH CRA
           by_cases hzl:zn<I.length
           ·have z1:(zn:Int)<(I.length:Int):=by omega
            obtain ⟨b', off', ee,d0,d1,d2⟩:=HI.out wx zn hzl (KW.trans' (hKi.trans' hx))
            cases ee
            clear HI
            generalize I[zn].1=op at *
            by_cases o2:op=2
            ·subst o2
             as_aux_lemma=>
              go_upto_region 27 with fail
              go_wp2_with fail
              go_roundw
              case rel=>first | exact ⟨zn,f,rfl,M,hKi.trans' hx⟩ | ((repeat apply Exists.intro);exact ⟨⟨zn,f,rfl,M,hKi.trans' hx⟩,rfl⟩)
              case measure=>simp only [intOf];rw [Int.toNat_natCast,Int.toNat_natCast];exact HM.out
            ·have o3:(op == 2)=false:=by simpa using o2
             as_aux_lemma=>
              go_upto_region 27 with fail
              go_wp2_with fail
              go_roundw
              case rel=>first | exact ⟨zn,f,rfl,M,hKi.trans' hx⟩ | ((repeat apply Exists.intro);exact ⟨⟨zn,f,rfl,M,hKi.trans' hx⟩,rfl⟩)
              case measure=>simp only [intOf];rw [Int.toNat_natCast,Int.toNat_natCast];exact HM.out
           ·have z1:¬ (zn:Int)<(I.length:Int):=by omega
            clear HI
            as_aux_lemma=>
             go_upto_region 27 with fail
             go_wp2_with fail
             go_roundw
             case rel=>first | exact ⟨zn,f,rfl,M,hKi.trans' hx⟩ | ((repeat apply Exists.intro);exact ⟨⟨zn,f,rfl,M,hKi.trans' hx⟩,rfl⟩)
             case measure=>simp only [intOf];rw [Int.toNat_natCast,Int.toNat_natCast];exact HM.out
      ·rw [if_neg h1] at hf2
       have FR:Hid (R=(0,0,[],0,92)):=hf2
       have hz:I[a].1=1→I[a].2.1<0∨(P.length:Int)≤I[a].2.1:=fun e=>by
        by_cases q0:I[a].2.1<0
        ·exact .inl q0
        ·refine .inr (Int.not_lt.1 fun q=>h1 ⟨e,?_⟩)
         unfold idxB;simp;omega
       clear hf1 hf2 hF HI HPT HEN CRH CRA h1
       generalize I[a].2.1=z at *
       generalize I[a].1=y at *
       by_cases q1:y=1
       ·subst q1
        by_cases q0:z<0
        ·go_upto_region 6 with fail
         rw [← hwi]
         clear hwi
         as_aux_lemma=>
          go_wp2_with fail
          obtain ⟨⟨q0,q1,q2,q3⟩,kk,ks⟩:=PH.out
          exact bodyPost_ret (v:=.tuple #[.agg #[.int .i64 0,.int .i64 0,.slice none 0 0,.int .i64 0],.int .i64 92]) (by simp [results,Tryz.results26,go_sem,q0,q1,q2,q3]) rfl (RET.out _ _ _ _ ks FR.out)
        ·have q2:¬ z<(P.length:Int):=by have:=hz rfl;omega
         have q3:(P.length:Int)≤z:=by omega
         as_aux_lemma=>
          go_upto_region 6 with fail
          rw [← hwi]
          clear hwi
          go_wp2_with fail
          obtain ⟨⟨q0,q1,q2,q3⟩,kk,ks⟩:=PH.out
          exact bodyPost_ret (v:=.tuple #[.agg #[.int .i64 0,.int .i64 0,.slice none 0 0,.int .i64 0],.int .i64 92]) (by simp [results,Tryz.results26,go_sem,q0,q1,q2,q3]) rfl (RET.out _ _ _ _ ks FR.out)
       ·go_upto_region 6 with fail
        rw [← hwi]
        clear hwi
        as_aux_lemma=>
         go_wp2_with fail
         obtain ⟨⟨q0,q1,q2,q3⟩,kk,ks⟩:=PH.out
         exact bodyPost_ret (v:=.tuple #[.agg #[.int .i64 0,.int .i64 0,.slice none 0 0,.int .i64 0],.int .i64 92]) (by simp [results,Tryz.results26,go_sem,q0,q1,q2,q3]) rfl (RET.out _ _ _ _ ks FR.out)
   ·have FR:Hid (R=(0,0,[],0,92)):=by obtain ⟨_,e⟩:=hF.out;rw [runF_out (by omega)] at e;exact e
    have PH:Hid _:=PUT.out wr (.int .i64 0) (.int .i64 0) (.slice none 0 0) (.int .i64 0) hK
    have a2:¬ (a:Int)<(I.length:Int):=by omega
    clear hF HI HPT HEN CRH CRA
    as_aux_lemma=>
     go_wp2_with fail
     obtain ⟨⟨q0,q1,q2,q3⟩,kk,ks⟩:=PH.out
     exact bodyPost_ret (v:=.tuple #[.agg #[.int .i64 0,.int .i64 0,.slice none 0 0,.int .i64 0],.int .i64 92]) (by simp [results,Tryz.results26,go_sem,q0,q1,q2,q3]) rfl (RET.out _ _ _ _ ks FR.out)
end Go.Proofs.YtdhiiicppcgkbaaGreat
