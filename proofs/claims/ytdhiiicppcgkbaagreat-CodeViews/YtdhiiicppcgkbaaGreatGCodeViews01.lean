import Derived.Test.YtdhiiicppcgkbaaGreatGB29
import Derived.Test.YtdhiiicppcgkbaaGreatGB05
import Derived.Test.YtdhiiicppcgkbaaGreatGB16
import Derived.Test.YtdhiiicppcgkbaaGreatGB08
import Derived.OpenShut
namespace Go.Proofs.YtdhiiicppcgkbaaGreat
set_option maxRecDepth 100000
set_option linter.unusedVariables false
open Go.RowKit
attribute [local go_sem ↓] Go.wp_at_zero Go.wp_at_succ
theorem row_get9 {base:Nat} {w:World} {v:Value} {xs:List Int} (h:Row base w v xs) {i:Nat} (hi:i<xs.length):∃ g cap,v=.slice (some ⟨g,0,none⟩) xs.length cap∧g<w.heap.size∧w.cell? ⟨g,i,none⟩=some (.int .i64 xs[i]):=by
 obtain ⟨g,cap,hv,_,hlt⟩:=h.form (by omega)
 subst hv
 exact ⟨g,cap,rfl,hlt,(h.cellAt i (by omega)).trans (iv_get hi)⟩
theorem cls_neg {L:List Sym} {t:List Int} {k:Nat} (h:k<t.length) (hx:t[k]<0):clsB L t=false:=by
 have:t.any (fun x=>decide (x<0))=true:=List.any_eq_true.2 ⟨t[k],List.getElem_mem h,by simpa using hx⟩
 simp [clsB,this]
theorem cls_none {L:List Sym} {t:List Int} (h:∀ x∈t,0≤x):clsB L t=decide (checkE L t=0):=by
 have:t.any (fun x=>decide (x<0))=false:=by
  rw [List.any_eq_false]
  intro x hx
  have:=h x hx
  simp;omega
 simp [clsB,this]
theorem cls_pos {L:List Sym} {t:List Int} (h:clsB L t=true):checkE L t=0∧∀ x∈t,0≤x:=by
 unfold clsB at h
 simp only [Bool.and_eq_true,decide_eq_true_eq,Bool.not_eq_true', List.any_eq_false,decide_eq_true_eq] at h
 exact ⟨h.1,fun x hx=>by have:=h.2 x hx;omega⟩
set_option maxHeartbeats 4000000 in
theorem rclosed_any {n:Nat} {w:World} {rv:Value} {L:List Sym} (h:Rl n w rv L) {ao:Option Addr} {cap:Nat} {t:List Int} (ht:IntsAt w ao t) (hm:t.length≤maxLen) :
  Calls Tryz.prog 33 #[rv,.slice ao t.length cap] w fun e w' => e=.returned (.bool (clsB L t))∧w' = w:=by
 have CK:=rcheck_any (cap:=cap) h ht hm
 unfold maxLen at hm
 obtain ⟨ro,rcap,rfl⟩:=row_shape h.1
 go_enter Tryz.func33,Tryz.ntmps33
 go_wp2
 go_loopw [5] (fun i wr=>∃ k:Nat,k≤t.length∧i=.int .i64 (k:Int)∧Hid (∀ x∈t.take k,0≤x)∧wr=w) (fun i _=>t.length-(intOf i).toNat)
 case atStart=>exact ⟨0,Nat.zero_le _,rfl,fun x hx=>by simp at hx,rfl⟩
 case round=>
  obtain ⟨k,hk,rfl,hH,rfl⟩:=hrel
  by_cases hlt:k<t.length
  ·obtain ⟨b,off,rfl,hb,hc⟩:=ht.get hlt
   have i1:(0:Int)≤(k:Int):=by omega
   have i2:(k:Int)<(t.length:Int):=by omega
   by_cases hx:t[k]<0
   ·have H:Hid (clsB L t=false):=cls_neg hlt hx
    generalize t[k]=x at *
    go_wp2
    go_ret
    exact ⟨by rw [H.out];rfl,rfl⟩
   ·have H:Hid (∀ x∈t.take (k+1),0≤x):=fun x hm' => by
     rw [← List.take_append_getElem hlt,List.mem_append] at hm'
     rcases hm' with h1 | h1
     ·exact hH.out x h1
     ·simp at h1;omega
    generalize t[k]=x at *
    go_wp2
    go_roundw
    case rel=>exact ⟨k+1,by omega,by go_num,H,trivial⟩
    case measure=>simp [intOf];omega
  ·have H:Hid (clsB L t=decide (checkE L t=0)):=cls_none (fun x hx=>hH.out x (by rw [List.take_of_length_le (by omega)];exact hx))
   generalize checkE L t=z at *
   go_wp2_with (first | (go_at_call 68;refine CK.mono ?_;rintro e w2 ⟨rfl,rfl⟩))
   go_ret
   exact ⟨by rw [H.out];rfl,rfl⟩
set_option maxHeartbeats 4000000 in
theorem rhead9_any {n:Nat} {w:World} {rv:Value} {L:List Sym} (h:Rl n w rv L) {ao:Option Addr} {cap:Nat} {t:List Int} (ht:IntsAt w ao t) (hm:t.length≤maxLen) (p:Int) :
  Calls Tryz.prog 30 #[rv,.slice ao t.length cap,.int .i64 p] w fun e w' => e=.returned (.int .i64 (headI (clsB L t) t p))∧w' = w:=by
 have CK:=rclosed_any (cap:=cap) h ht hm
 unfold maxLen at hm
 obtain ⟨ro,rcap,rfl⟩:=row_shape h.1
 cases hcl:clsB L t with
 | false=>
  rw [hcl] at CK
  go_enter Tryz.func30,Tryz.ntmps30
  go_wp2_with (first | (go_at_call 33;refine CK.mono ?_;rintro e w2 ⟨rfl,rfl⟩))
  go_ret
  exact ⟨rfl,rfl⟩
 | true=>
  rw [hcl] at CK
  by_cases h0:p<0
  ·have H:Hid (headI true t p = -1):=by show _=_;simp [headI,idxB];omega
   go_enter Tryz.func30,Tryz.ntmps30
   go_wp2_with (first | (go_at_call 33;refine CK.mono ?_;rintro e w2 ⟨rfl,rfl⟩))
   go_ret
   exact ⟨by rw [H.out];rfl,rfl⟩
  ·by_cases h1:p<(t.length:Int)
   ·obtain ⟨i,rfl⟩:∃ i:Nat,p=(i:Int):=⟨p.toNat,by omega⟩
    have hi:i<t.length:=by omega
    have H:Hid (headI true t (i:Int)=t[i]):=by show _=_;simp [headI,idxB,hi]
    obtain ⟨b,off,rfl,hb,hc⟩:=ht.get hi
    have i1:(0:Int)≤(i:Int):=by omega
    generalize t[i]=x at *
    go_enter Tryz.func30,Tryz.ntmps30
    go_wp2_with (first | (go_at_call 33;refine CK.mono ?_;rintro e w2 ⟨rfl,rfl⟩))
    go_ret
    exact ⟨by rw [H.out];rfl,rfl⟩
   ·have H:Hid (headI true t p = -1):=by show _=_;simp [headI,idxB];omega
    go_enter Tryz.func30,Tryz.ntmps30
    go_wp2_with (first | (go_at_call 33;refine CK.mono ?_;rintro e w2 ⟨rfl,rfl⟩))
    go_ret
    exact ⟨by rw [H.out];rfl,rfl⟩
set_option maxHeartbeats 4000000 in
theorem rarg9_any {n:Nat} {w:World} {rv:Value} {L:List Sym} (h:Rl n w rv L) {ao:Option Addr} {cap:Nat} {t:List Int} (ht:IntsAt w ao t) (hm:t.length≤maxLen) (p m:Int) :
  Calls Tryz.prog 32 #[rv,.slice ao t.length cap,.int .i64 p,.int .i64 m] w fun e w' => e=.returned (.int .i64 (argI L (clsB L t) t p m))∧Same0 w w' := by
 have CH:=rhead9_any (cap:=cap) h ht hm p
 by_cases hok:(clsB L t && idxB p t.length)=true
 ·have hok2:=hok
  rw [Bool.and_eq_true] at hok2
  obtain ⟨hcl,hix⟩:=hok2
  obtain ⟨i,rfl,hi⟩:=idx_yes hix
  obtain ⟨ck,hpos⟩:=cls_pos hcl
  obtain ⟨h2000,_,hT⟩:=checkE_zero.1 ck
  have CA:=rargs_any (cap:=cap) h ht h2000 hT i hi
  have hh:headI (clsB L t) t (i:Int)=t[i]:=by simp [headI,hok,hi]
  have hx:0≤t[i]:=hpos _ (List.getElem_mem hi)
  rw [hh] at CH
  have HA:Hid (argI L (clsB L t) t (i:Int) m=if idxB m (argsN L t i).length=true then (((argsN L t i).getD m.toNat 0:Nat):Int) else -1):=by show _=_;rw [argI,if_pos hok,Int.toNat_natCast]
  have hl:(ofN (argsN L t i)).length=(argsN L t i).length:=by simp [ofN]
  obtain ⟨ro,rcap,rfl⟩:=row_shape h.1
  generalize t[i]=x at *
  clear hok hcl hix hpos ck hh h
  by_cases h0:m<0
  ·have H:Hid (argI L (clsB L t) t (i:Int) m = -1):=by show _=_;rw [HA.out,if_neg (by simp [idxB];omega)]
   go_enter Tryz.func32,Tryz.ntmps32
   go_wp2_with (first | (go_at_call 30;refine CH.mono ?_;rintro e w2 ⟨rfl,rfl⟩) | (go_at_call 67;refine CA.mono ?_;rintro e w3 ⟨v,rfl,hr,k3⟩;obtain ⟨vo,vc,rfl,hv,_⟩:=hr.ints))
   go_ret
   exact ⟨by rw [H.out];rfl,k3⟩
  ·by_cases h1:m<((argsN L t i).length:Int)
   ·obtain ⟨j,rfl⟩:∃ j:Nat,m=(j:Int):=⟨m.toNat,by omega⟩
    have hj:j<(argsN L t i).length:=by omega
    have H:Hid (argI L (clsB L t) t (i:Int) (j:Int)=(ofN (argsN L t i))[j]):=by
     show _=_
     rw [HA.out,if_pos (by simp [idxB,hj])]
     simp [ofN,hj]
    have i1:(0:Int)≤(j:Int):=by omega
    have i2:(j:Int)<((ofN (argsN L t i)).length:Int):=by omega
    go_enter Tryz.func32,Tryz.ntmps32
    go_wp2_with (first | (go_at_call 30;refine CH.mono ?_;rintro e w2 ⟨rfl,rfl⟩) | (go_at_call 67;refine CA.mono ?_;rintro e w3 ⟨v,rfl,hr,k3⟩;obtain ⟨g,gc,rfl,hgl,hgc⟩:=row_get9 hr (i:=j) (by omega)))
    go_ret
    exact ⟨by rw [H.out];rfl,k3⟩
   ·have H:Hid (argI L (clsB L t) t (i:Int) m = -1):=by show _=_;rw [HA.out,if_neg (by simp [idxB];omega)]
    have h1' : ¬ m<((ofN (argsN L t i)).length:Int):=by omega
    go_enter Tryz.func32,Tryz.ntmps32
    go_wp2_with (first | (go_at_call 30;refine CH.mono ?_;rintro e w2 ⟨rfl,rfl⟩) | (go_at_call 67;refine CA.mono ?_;rintro e w3 ⟨v,rfl,hr,k3⟩;obtain ⟨vo,vc,rfl,hv,_⟩:=hr.ints))
    go_ret
    exact ⟨by rw [H.out];rfl,k3⟩
 ·have hh:headI (clsB L t) t p = -1:=by rw [headI,if_neg hok]
  have H:Hid (argI L (clsB L t) t p m = -1):=by show _=_;rw [argI,if_neg hok]
  rw [hh] at CH
  obtain ⟨ro,rcap,rfl⟩:=row_shape h.1
  clear hok hh
  go_enter Tryz.func32,Tryz.ntmps32
  go_wp2_with (first | (go_at_call 30;refine CH.mono ?_;rintro e w2 ⟨rfl,rfl⟩))
  go_ret
  exact ⟨by rw [H.out];rfl,Kept.refl _ _⟩
set_option maxHeartbeats 2000000 in
theorem made_both (ao:Option Addr) (len cap:Nat) (xs:List Sym) (w:World) (hx:SymsAt w ao len xs) (hm:len≤maxLen) :
  Calls Tryz.prog 23 #[.slice ao len cap] w fun e w' => ∃ b ro rc sv mr,e=.returned (.tuple #[.pointer (some ⟨b,0,none⟩),.slice ro (madeL xs).length rc])∧SigAt w' b (madeL xs) sv mr∧(∀ k,Foot b sv mr k→w.heap.size≤k∧k<w'.heap.size)∧Sg w'.heap.size w' b (madeL xs)∧Rl w'.heap.size w' (.slice ro (madeL xs).length rc) (madeL xs)∧(∀ k,(Value.slice ro (madeL xs).length rc).ownBlock=some k→¬ Foot b sv mr k)∧Same0 w w' := by
 unfold maxLen at hm
 go_enter Tryz.func23,Tryz.ntmps23
 go_wp2_with (first | (go_at_call 57;refine (new_any _).mono ?_;rintro e w' ⟨rfl,rfl⟩))
 go_loopw [6] (fun i wr=>∃ (k:Nat) (sv:Value) (mr:Option Nat) (rv:Value),k≤len∧i=.int .i64 (k:Int)∧Both w.heap.size w wr w.heap.size (w.heap.size+1) (madeL (xs.take k)) sv mr rv) (fun i _=>len-(intOf i).toNat)
 case atStart=>exact ⟨0,_,_,_,Nat.zero_le _,rfl,Both.start w⟩
 case round=>
  obtain ⟨k,sv,mr,rv,hk,rfl,hb⟩:=hrel
  have hlen:=hb.sg.len
  by_cases hlt:k<len
  ·obtain ⟨xl,xc,xw⟩:=hx.kept (from_below hb.k).below
   obtain ⟨xb,off,rfl,hxb,hxc⟩:=xc.resolve_left (by omega)
   have hkx:k<xs.length:=by omega
   obtain ⟨x0,x1,x2⟩:=hxc k hkx
   have xsz:=(xw xs[k] (List.getElem_mem hkx)).1
   have i1:(0:Int)≤(k:Int):=by omega
   have i2:(k:Int)<(len:Int):=by omega
   have E1:Hid (madeL (xs.take (k+1))=addL (madeL (xs.take k)) xs[k]):=madeL_snoc hkx
   have hn0:=hb.k.size
   have hxs:=hx
   clear hxc xw xc xl
   generalize madeL (xs.take k)=L at *
   go_wp2_with fail
   refine (add_any hb.sg xs[k] xsz).mono ?_
   rintro e w1 ⟨rfl,sv1,mr1,h1,h2,h3⟩
   have hr1:RefAt w1 (w.heap.size+1) L rv:=hb.rf.kept h2 (fun k hk' e=>hb.d k e hk')
   have k1:Kept (From w.heap.size) w w1:=hb.k.trans h2 (fun i _ e=>hb.f i e)
   obtain ⟨y0,y1,y2⟩:w1.cell? ⟨xb,off+k * 3,none⟩=some (.string xs[k].name)∧w1.cell? ⟨xb,off+k * 3+1,none⟩=some (.int .i64 xs[k].ar)∧w1.cell? ⟨xb,off+k * 3+2,none⟩=some (.bool xs[k].df):=by
    obtain ⟨_,yc,_⟩:=hxs.kept (from_below k1).below
    obtain ⟨_,_,e,_,hyc⟩:=yc.resolve_left (by omega)
    simp only [Option.some.injEq,Addr.mk.injEq,and_true] at e
    rw [e.1,e.2]
    exact hyc k hkx
   clear x0 x1 x2
   go_wp2_with fail
   refine (radd_any hr1 hlen xs[k] xsz).mono ?_
   rintro e w2 ⟨rfl,hr⟩
   obtain ⟨rv2,hb2⟩:=hb.next xs[k] hn0 h1 h2 h3 hr
   go_wp2
   refine ⟨⟨k+1,sv1,mr1,rv2,by omega,by go_num,?_⟩,by simp [intOf];omega⟩
   rw [E1.out];exact hb2
  ·have hxl:=hx.1
   have E1:xs.take k=xs:=List.take_of_length_le (by omega)
   rw [E1] at hb hlen
   have r0:=hb.rf.c0
   obtain ⟨ro,rc,rfl⟩:=row_shape hb.rf.row
   clear E1
   go_wp2
   go_quiet (fail)
   go_wp2
   go_ret2
   have kd:Same0 wr (wr.drewN nq):=(Kept.refl _ _).drewN nq
   have hz:(wr.drewN nq).heap.size=wr.heap.size:=by first | rfl | simp
   have fin:Sg wr.heap.size wr w.heap.size (madeL xs)∧Rl wr.heap.size wr (.slice ro (madeL xs).length rc) (madeL xs)∧Same0 w wr:=⟨⟨⟨sv,mr,hb.sg,sig_foot_lt hb.sg⟩,hb.a⟩,⟨hb.rf.row,fun k e=>hb.rf.lt k (.inr e),hb.a,hlen⟩,from_below hb.k⟩
   exact ⟨w.heap.size,ro,rc,sv,mr,rfl,hb.sg.kept kd (fun _ _ f=>f),fun k hk=>⟨hb.f k hk,Nat.lt_of_lt_of_le (sig_foot_lt hb.sg k hk) kd.size⟩,sg_up (fin.1.same kd) kd.size,rl_up (fin.2.1.same kd) kd.size,fun k e hf=>hb.d k hf (.inr e),fin.2.2.trans' kd⟩
set_option maxHeartbeats 4000000 in
theorem over_nil (ao:Option Addr) (len cap:Nat) (w:World):Calls Tryz.prog 24 #[.pointer none,.slice ao len cap] w fun e w' => e=.returned (.agg #[.slice none 0 0,.slice none 0 0])∧Same0 w w' := by
 obtain ⟨W1,hW1⟩:∃ W1,W1=w.alloc (.cells #[.slice none 0 0,.slice none 0 0] 70):=⟨_,rfl⟩
 have KW:Same0 w W1:=by rw [hW1];exact (Kept.refl _ w).alloc _
 have hbx:W1.heap[w.heap.size]? = some (.cells #[.slice none 0 0,.slice none 0 0] 70 (0,0)):=by rw [hW1];exact heap_alloc_new w _
 have r2:=cellAt hbx 0
 have r3:=cellAt hbx 1
 have f2:=frozenAt hbx 0
 have f3:=frozenAt hbx 1
 have PUT:Hid (∀ x y,(((W1.setCell ⟨w.heap.size,0,none⟩ x).setCell ⟨w.heap.size,1,none⟩ y).cell? ⟨w.heap.size,0,none⟩=some x∧((W1.setCell ⟨w.heap.size,0,none⟩ x).setCell ⟨w.heap.size,1,none⟩ y).cell? ⟨w.heap.size,1,none⟩=some y)∧Same0 w ((W1.setCell ⟨w.heap.size,0,none⟩ x).setCell ⟨w.heap.size,1,none⟩ y)):=fun x y=>by
  have h2:=setAt (setAt hbx 0 x) 1 y
  exact ⟨⟨cellAt h2 0,cellAt h2 1⟩,Same0.own (Same0.own KW (Nat.le_refl _) _) (Nat.le_refl _) _⟩
 clear hbx
 go_enter Tryz.func24,Tryz.ntmps24
 go_upto_region 1 with fail
 rw [← hW1]
 clear hW1
 go_wp2_with (first | (go_at_call 59;refine (check_nil _ _ _ _).mono ?_;rintro e w2 ⟨rfl,rfl⟩))
 obtain ⟨⟨g0,g1⟩,ks⟩:=PUT.out (.slice none 0 0) (.slice none 0 0)
 exact bodyPost_ret (v:=.agg #[.slice none 0 0,.slice none 0 0]) (by simp [results,Tryz.results24,go_sem,g0,g1]) rfl ⟨rfl,ks⟩
def PrsAt (w:World) (qo:Option Addr) (A:List (Int × Int)):Prop:=
 A=[]∨∃ b off,qo=some ⟨b,off,none⟩∧b<w.heap.size∧∀ i (h:i<A.length),w.cell? ⟨b,off+i * 2,none⟩=some (.int .i64 A[i].1)∧w.cell? ⟨b,off+i * 2+1,none⟩=some (.int .i64 A[i].2)
theorem PrsAt.get {w w' : World} {qo:Option Addr} {A:List (Int × Int)} (h:PrsAt w qo A) (hk:Same0 w w') {i:Nat} (hi:i<A.length):∃ b off,qo=some ⟨b,off,none⟩∧w'.cell? ⟨b,off+i * 2,none⟩=some (.int .i64 A[i].1)∧w'.cell? ⟨b,off+i * 2+1,none⟩=some (.int .i64 A[i].2):=by
 rcases h with rfl | ⟨b,off,e,hb,hc⟩
 ·simp at hi
 ·obtain ⟨c0,c1⟩:=hc i hi
  exact ⟨b,off,e,(hk.cell (p:=⟨b,off+i * 2,none⟩) hb (fun f=>f)).trans c0,(hk.cell (p:=⟨b,off+i * 2+1,none⟩) hb (fun f=>f)).trans c1⟩
set_option maxHeartbeats 16000000 in
theorem views_walk {W:World} {ao:Option Addr} {len cap:Nat} {xs:List Sym} (hx:SymsAt W ao len xs) (hm:len≤maxLen) {to' : Option Addr} {tc:Nat} {T:List Int} (ht:Arg W to' T tc) {qo:Option Addr} {qc:Nat} {A:List (Int × Int)} (hq:PrsAt W qo A) (hql:A.length≤maxLen) :
  Calls Tryz.prog 6 #[.slice ao len cap,.slice to' T.length tc,.slice qo A.length qc] W fun e w' => e=.returned (.bool true)∧Below W.heap.size W w' := by
 have hn1:=sg_nil8
 have htm:T.length≤maxLen:=by have:=ht.size;unfold maxLen;omega
 unfold maxLen at hql
 go_enter Tryz.func6,Tryz.ntmps6
 go_upto_region 2 with (first | (go_at_call 10;refine (awake9_any _).mono ?_;rintro e w0 ⟨rfl,k0⟩))
 have CM:=made_both ao len cap xs w0 (hx.same8 k0) hm
 generalize madeL xs=L at CM
 clear hx hm
 go_upto_region 3 with (first | (go_at_call 23;refine CM.mono ?_;rintro e w1 ⟨b,ro,rc,sv,mr,rfl,hsg,hft,hS,hR,hRf,k1⟩))
 go_upto_region 5 with fail
 have CO:=over_any hS (ht.same (k0.trans' k1))
 go_upto_region 6 with (first | (go_at_call 24;refine CO.mono ?_;rintro e w2 ⟨ho,hn,hc,go,gn,gc,rfl,hV,k2⟩))
 obtain ⟨w3,hw3⟩:∃ w3,w3=w2.alloc (.cells #[.slice ho hn hc,.slice go gn gc] 70):=⟨_,rfl⟩
 have k3:Same0 w2 w3:=by rw [hw3];exact (Kept.refl _ _).alloc _
 have hb3:w3.heap[w2.heap.size]? = some (.cells #[.slice ho hn hc,.slice go gn gc] 70 (0,0)):=by rw [hw3];exact heap_alloc_new w2 _
 rw [← hw3]
 clear hw3 CO CM
 go_upto_region 7 with (first | (go_at_call 24;refine (over_nil _ _ _ _).mono ?_;rintro e w4 ⟨rfl,k4⟩))
 obtain ⟨w5,hw5⟩:∃ w5,w5=w4.alloc (.cells #[.slice none 0 0,.slice none 0 0] 70):=⟨_,rfl⟩
 have k5:Same0 w4 w5:=by rw [hw5];exact (Kept.refl _ _).alloc _
 have hb5:w5.heap[w4.heap.size]? = some (.cells #[.slice none 0 0,.slice none 0 0] 70 (0,0)):=by rw [hw5];exact heap_alloc_new w4 _
 rw [← hw5]
 clear hw5
 have k15:Same0 w1 w5:=((k2.trans' k3).trans' k4).trans' k5
 have k25:Same0 w2 w5:=(k3.trans' k4).trans' k5
 have k35:Same0 w3 w5:=k4.trans' k5
 have CD:=add_any (hsg.kept k15 (fun _ _ f=>f)) ⟨⟨#[108,97,116,101,114]⟩,1,false⟩ (by decide)
 go_upto_region 8 with (first | (go_at_call 28;refine CD.mono ?_;rintro e w6 ⟨rfl,sv1,mr1,h1,h2,h3⟩))
 have z1:=k1.size
 have z2:=k2.size
 have z4:=(k2.trans' k3).trans' k4 |>.size
 have hVw:VwAt w1.heap.size w6 L (clsB L T) T (.agg #[.slice ho hn hc,.slice go gn gc]):=(hV.same k25).kept h2 (fun k hk hf=>by have:=(hft k hf).2;omega)
 have hB10:w6.heap[w2.heap.size]? = some (.cells #[.slice ho hn hc,.slice go gn gc] 70 (0,0)):=(h2.block _ (lt_of_at (k35.at0 hb3)) (fun hf=>by have:=(hft _ hf).2;omega)).trans (k35.at0 hb3)
 have hB11:w6.heap[w4.heap.size]? = some (.cells #[.slice none 0 0,.slice none 0 0] 70 (0,0)):=(h2.block _ (lt_of_at hb5) (fun hf=>by have:=(hft _ hf).2;omega)).trans hb5
 have hRl:Rl w1.heap.size w6 (.slice ro L.length rc) L:=⟨h2.row (hR.same k15).1 (fun k e=>hRf k e),hR.2⟩
 have z0:=k0.size
 have KW:Same0 W w6:=Kept.trans ((k0.trans' k1).trans' k15) h2 (fun i hi hf=>by have:=(hft i hf).1;omega)
 have HB:Hid (∀ ww,Same0 w6 ww→(ww.cell? ⟨w2.heap.size,0,none⟩=some (.slice ho hn hc)∧ww.cell? ⟨w2.heap.size,1,none⟩=some (.slice go gn gc))∧ww.cell? ⟨w4.heap.size,0,none⟩=some (.slice none 0 0)∧ww.cell? ⟨w4.heap.size,1,none⟩=some (.slice none 0 0)):=fun ww hk=>by
  have a:=hk.at0 hB10
  have b:=hk.at0 hB11
  exact ⟨⟨cellAt a 0,cellAt a 1⟩,cellAt b 0,cellAt b 1⟩
 have CH1:Hid (∀ ww p,Same0 w6 ww→Calls Tryz.prog 29 #[.agg #[.slice ho hn hc,.slice go gn gc],.int .i64 p] ww fun e w' => e=.returned (.tuple #[.int .i64 (headI (clsB L T) T p),.bool false])∧Same0 ww w'):=fun ww p hk=>head_any (hVw.same hk) p
 have CH0:Hid (∀ ww p,Same0 w6 ww→Calls Tryz.prog 29 #[.agg #[.slice none 0 0,.slice none 0 0],.int .i64 p] ww fun e w' => e=.returned (.tuple #[.int .i64 (-1),.bool false])∧Same0 ww w'):=fun ww p hk=>head_any (vw_none 0 ww L T) p
 have CA1:Hid (∀ ww p m,Same0 w6 ww→Calls Tryz.prog 31 #[.agg #[.slice ho hn hc,.slice go gn gc],.int .i64 p,.int .i64 m] ww fun e w' => e=.returned (.int .i64 (argI L (clsB L T) T p m))∧Same0 ww w'):=fun ww p m hk=>arg_any (hVw.same hk) p m
 have CA0:Hid (∀ ww p m,Same0 w6 ww→Calls Tryz.prog 31 #[.agg #[.slice none 0 0,.slice none 0 0],.int .i64 p,.int .i64 m] ww fun e w' => e=.returned (.int .i64 (-1))∧Same0 ww w'):=fun ww p m hk=>arg_any (vw_none 0 ww L T) p m
 have CRH:Hid (∀ ww p,Same0 w6 ww→Calls Tryz.prog 30 #[.slice ro L.length rc,.slice to' T.length tc,.int .i64 p] ww fun e w' => e=.returned (.int .i64 (headI (clsB L T) T p))∧w' = ww):=fun ww p hk=>rhead9_any (hRl.same hk) (ht.same (KW.trans' hk)).at' htm p
 have CRA:Hid (∀ ww p m,Same0 w6 ww→Calls Tryz.prog 32 #[.slice ro L.length rc,.slice to' T.length tc,.int .i64 p,.int .i64 m] ww fun e w' => e=.returned (.int .i64 (argI L (clsB L T) T p m))∧Same0 ww w'):=fun ww p m hk=>rarg9_any (hRl.same hk) (ht.same (KW.trans' hk)).at' htm p m
 have HQ:Hid (∀ ww,Same0 w6 ww→∀ i (hi:i<A.length),∃ b off,qo=some ⟨b,off,none⟩∧ww.cell? ⟨b,off+i * 2,none⟩=some (.int .i64 A[i].1)∧ww.cell? ⟨b,off+i * 2+1,none⟩=some (.int .i64 A[i].2)):=fun ww hk i hi=>hq.get (KW.trans' hk) hi
 clear hVw hB10 hB11 hRl hb3 hb5 hsg hft hS hR hRf hV h1 h2 h3 k15 k25 k35 CD ht htm hq
 go_wp2_with fail
 go_loopw [12] (fun i wr=>∃ k:Nat,k≤A.length∧i=.int .i64 (k:Int)∧Same0 w6 wr) (fun i _=>A.length-(intOf i).toNat)
 case atStart=>exact ⟨0,Nat.zero_le _,rfl,Kept.refl _ _⟩
 case round=>
  obtain ⟨k,hk,rfl,hs⟩:=hrel
  by_cases hlt:k<A.length
  ·obtain ⟨qb,qoff,rfl,a0,a1⟩:=HQ.out wr hs k hlt
   have HQ2:Hid (∀ ww,Same0 wr ww→ww.cell? ⟨qb,qoff+k * 2,none⟩=some (.int .i64 A[k].1)∧ww.cell? ⟨qb,qoff+k * 2+1,none⟩=some (.int .i64 A[k].2)):=fun ww hw=>by
    obtain ⟨b', off', e,c0,c1⟩:=HQ.out ww (hs.trans' hw) k hlt
    cases e
    exact ⟨c0,c1⟩
   have i1:(0:Int)≤(k:Int):=by omega
   have i2:(k:Int)<(A.length:Int):=by omega
   generalize A[k].1=p at *
   generalize A[k].2=m at *
   obtain ⟨⟨v0,v1⟩,n0,n1⟩:=HB.out wr hs
   have e1:=CH1.out wr p hs
   go_upto_region 13 with (first | (go_at_call 29;refine e1.mono ?_;rintro e w7 ⟨rfl,k7⟩))
   clear e1 v0 v1 n0 n1 a0 a1
   have s7:=hs.trans' k7
   obtain ⟨⟨v0,v1⟩,n0,n1⟩:=HB.out w7 s7
   have e1:=CH0.out w7 p s7
   go_upto_region 14 with (first | (go_at_call 29;refine e1.mono ?_;rintro e w8 ⟨rfl,k8⟩))
   clear e1 v0 v1 n0 n1
   have s8:=s7.trans' k8
   have e1:=CRH.out w8 p s8
   generalize headI (clsB L T) T p=z at *
   have hzz:(z != z)=false:=by simp
   go_upto_region 16 with (first | (go_at_call 30;refine e1.mono ?_;rintro e w9 ⟨rfl,rfl⟩))
   clear e1
   have C0:(w9.cell? ⟨w2.heap.size,0,none⟩=some (.slice ho hn hc)∧w9.cell? ⟨w2.heap.size,1,none⟩=some (.slice go gn gc))∧w9.cell? ⟨qb,qoff+k * 2+1,none⟩=some (.int .i64 m):=⟨(HB.out w9 s8).1,(HQ2.out w9 (k7.trans' k8)).2⟩
   have kd:Same0 w9 w9.drew:=Kept.drew (Kept.refl _ _)
   go_cut [18] from 40 to 109 (fun s18 wc=>s18=.int .i64 (argI L (clsB L T) T p m)∧Same0 w9 wc)
   case first=>
    go_region_held3 (fun w' => (w'.cell? ⟨w2.heap.size,0,none⟩=some (.slice ho hn hc)∧w'.cell? ⟨w2.heap.size,1,none⟩=some (.slice go gn gc))∧w'.cell? ⟨qb,qoff+k * 2+1,none⟩=some (.int .i64 m)) (first | exact C0 | exact cc1) (first
     | (go_at_call 31;refine (CA1.out _ p m (s8.trans' kd)).mono ?_;rintro e w10 ⟨rfl,k10⟩;have k910:=kd.trans' k10;have cc1:=And.intro (HB.out w10 (s8.trans' k910)).1 (HQ2.out w10 ((k7.trans' k8).trans' k910)).2))
    all_goals
     go_wp2_with fail
     go_meet
     case rel=>exact ⟨rfl,k910⟩
   case rest=>
    obtain ⟨rfl,kc⟩:=hcut
    obtain ⟨wx,rfl⟩:∃ wx,wx=wc:=⟨_,rfl⟩
    have sc:=s8.trans' kc
    have rk:=(k7.trans' k8).trans' kc
    clear C0 kd
    have C0:(wx.cell? ⟨w4.heap.size,0,none⟩=some (.slice none 0 0)∧wx.cell? ⟨w4.heap.size,1,none⟩=some (.slice none 0 0))∧wx.cell? ⟨qb,qoff+k * 2+1,none⟩=some (.int .i64 m):=⟨(HB.out wx sc).2,(HQ2.out wx rk).2⟩
    have kd:Same0 wx wx.drew:=Kept.drew (Kept.refl _ _)
    go_upto_region 17 with fail
    go_cut [19] from 40 to 109 (fun s19 wc=>s19=.int .i64 (-1)∧Same0 wx wc)
    case first=>
     go_region_held3 (fun w' => (w'.cell? ⟨w4.heap.size,0,none⟩=some (.slice none 0 0)∧w'.cell? ⟨w4.heap.size,1,none⟩=some (.slice none 0 0))∧w'.cell? ⟨qb,qoff+k * 2+1,none⟩=some (.int .i64 m)) (first | exact C0 | exact cc1) (first
      | (go_at_call 31;refine (CA0.out _ p m (sc.trans' kd)).mono ?_;rintro e w10 ⟨rfl,k10⟩;have k910:=kd.trans' k10;have cc1:=And.intro (HB.out w10 (sc.trans' k910)).2 (HQ2.out w10 (rk.trans' k910)).2))
     all_goals
      go_wp2_with fail
      go_meet
      case rel=>exact ⟨rfl,k910⟩
    case rest=>
     obtain ⟨rfl,kc2⟩:=hcut
     have sc2:=sc.trans' kc2
     have a1:=(HQ2.out wc (rk.trans' kc2)).2
     have e1:=CRA.out wc p m sc2
     clear C0 kd
     generalize argI L (clsB L T) T p m=y at *
     have hyy:(y != y)=false:=by simp
     go_wp2_with (first | (go_at_call 32;refine e1.mono ?_;rintro e w11 ⟨rfl,k11⟩))
     go_roundw
     case rel=>first | exact ⟨k+1,by omega,by go_num,sc2.trans' k11⟩ | ((repeat apply Exists.intro);exact ⟨⟨k+1,by omega,by go_num,sc2.trans' k11⟩,rfl⟩)
     case measure=>simp [intOf];omega
  ·go_wp2_with fail
   go_ret
   exact ⟨rfl,(KW.trans' hs).below⟩
end Go.Proofs.YtdhiiicppcgkbaaGreat
namespace Go.Proofs.YtdhiiicppcgkbaaGreat
set_option linter.unusedVariables false
open Go.RowKit Go.Deep
section
variable {H : Type} {enc : TypeId × Value → H} {w : World} {spare : Nat → Bool} {held : Bool}
theorem cells_pair:Tryz.prog.cellsOf 83=2:=by kernel_rfl
set_option maxRecDepth 100000 in
theorem open_pair {fuel:Nat} {cs:List Value} {x:DataW H × List MemPlace} (h:DataW.trod enc Tryz.prog w 0 spare held fuel 83 cs=some x) :
  ∃ y:Int × Int,cs=[.int .i64 y.1,.int .i64 y.2]:=by
 obtain ⟨ys,n,_,_,hl,hn,he⟩:=DataW.trod_array Tryz.underlying83 h
 rw [cells_pair] at hl
 match cs,hl with
 | [c0,c1],_=>
  have g0:=he 0 (by omega)
  have g1:=he 1 (by omega)
  rw [List.getElem?_eq_getElem (by omega)] at g0 g1
  simp only [cells_int,Nat.zero_mul,Nat.one_mul,List.drop_zero,List.take_succ_cons,List.take_zero,List.drop_succ_cons] at g0 g1
  obtain ⟨a,e0,_,_⟩:=DataW.trod_int Tryz.underlying3 g0
  obtain ⟨b,e1,_,_⟩:=DataW.trod_int Tryz.underlying3 g1
  simp only [List.cons.injEq,and_true] at e0 e1
  exact ⟨(a,b),by rw [e0,e1]⟩
set_option maxRecDepth 100000 in
theorem open_prs {fuel:Nat} {ao:Option Addr} {len cap:Nat} {x:DataW H × List MemPlace} (h:DataW.trod enc Tryz.prog w 0 spare held fuel 79 [.slice ao len cap]=some x):∃ A:List (Int × Int),A.length=len∧PrsAt w ao A∧len≤maxLen:=by
 rcases open_elems Tryz.underlying79 cells_pair (by omega) h with ⟨rfl,rfl,rfl⟩ | ⟨a,rfl,hl1,hl2,hall⟩
 ·exact ⟨[],rfl,.inl rfl,by simp⟩
 ·have each:∀ i,i<len→∃ y:Int × Int,w.cell? ⟨a.block,a.off+i * 2,none⟩=some (.int .i64 y.1)∧w.cell? ⟨a.block,a.off+i * 2+1,none⟩=some (.int .i64 y.2):=by
   intro i hi
   obtain ⟨_,_,cs,n,y,hl,hcell,hy⟩:=hall i hi
   obtain ⟨s,rfl⟩:=open_pair hy
   exact ⟨s,by simpa using hcell 0 (by omega),by simpa using hcell 1 (by omega)⟩
  obtain ⟨f,hf⟩:=Classical.axiomOfChoice (r:=fun (i:Fin len) (y:Int × Int)=>w.cell? ⟨a.block,a.off+i * 2,none⟩=some (.int .i64 y.1)∧w.cell? ⟨a.block,a.off+i * 2+1,none⟩=some (.int .i64 y.2)) (fun i=>each i i.2)
  refine ⟨List.ofFn f,by simp,?_,by omega⟩
  by_cases h0:len=0
  ·subst h0;exact .inl (by simp)
  ·obtain ⟨ea,hlt,_⟩:=hall 0 (by omega)
   refine .inr ⟨a.block,a.off,by rw [← ea],hlt,fun i hi=>?_⟩
   have hi' : i<len:=by simpa using hi
   have:=hf ⟨i,hi'⟩
   simp only [List.getElem_ofFn]
   exact ⟨this.1,this.2⟩
end
end Go.Proofs.YtdhiiicppcgkbaaGreat
