import Derived.Test.YtmjgnfkbnofjoaaGreatDoorSW05
import Derived.Test.YtmjgnfkbnofjoaaGreatDoorSW21
import Derived.Test.YtmjgnfkbnofjoaaGreatDoorSW23
import Derived.Test.YtmjgnfkbnofjoaaGreatDoorSW14
import Derived.Test.YtmjgnfkbnofjoaaGreatDoorSW15
namespace Go.Proofs.YtmjgnfkbnofjoaaGreatDoor
set_option linter.unusedVariables false
open Go.RowKit
attribute [local go_sem ↓] Go.wp_at_zero Go.wp_at_succ
def leadR (L:List Sym) (t path:List Int):Int:=match leads L t 0 path with | some q=>(q:Int) | none=>-1
theorem Row.get {base:Nat} {w:World} {v:Value} {xs:List Int} (h:Row base w v xs) {i:Nat} (hi:i<xs.length):∃ g cap,v=.slice (some ⟨g,0,none⟩) xs.length cap∧g<w.heap.size∧w.cell? ⟨g,i,none⟩=some (.int .i64 xs[i]):=by
 obtain ⟨g,cap,hv,_,hlt⟩:=h.form (by omega)
 subst hv
 exact ⟨g,cap,rfl,hlt,(h.cellAt i (by omega)).trans (iv_get hi)⟩
set_option maxHeartbeats 4000000 in
theorem rfrom_any {n:Nat} {w:World} {rv:Value} {L:List Sym} (h:Rl n w rv L) {ao po:Option Addr} {cap pcap:Nat} {t path:List Int} (ht:IntsAt w ao t) (hm:t.length≤2000) (hT:IsT L t) (hp:IntsAt w po path) (hpm:path.length≤maxLen) :
  Calls Tryz.prog 196 #[rv,.slice ao t.length cap,.int .i64 0,.slice po path.length pcap] w fun e w' => e=.returned (.int .i64 (leadR L t path))∧Same0 w w' := by
 unfold maxLen at hpm
 have c1:∀ w1 q,Same0 w w1→q<t.length→Calls Tryz.prog 194 #[rv,.slice ao t.length cap,.int .i64 (q:Int)] w1 fun e w' => ∃ v,e=.returned v∧Row w1.heap.size w' v (ofN (argsN L t q))∧Same0 w1 w' := fun w1 q hk hq=>rargs_any (cap:=cap) (h.same hk) (ht.same hk) hm hT q hq
 obtain ⟨ro,rcap,rfl⟩:=row_shape h.1
 go_enter Tryz.func196,Tryz.ntmps196
 go_wp2
 go_loopw [2,9] (fun at' i wr=>∃ k q:Nat,k≤path.length∧i=.int .i64 (k:Int)∧at' = .int .i64 (q:Int)∧q<t.length∧Hid (leads L t 0 path=leads L t q (path.drop k))∧Same0 w wr) (fun _ i _=>path.length-(intOf i).toNat)
 case atStart=>exact ⟨0,0,Nat.zero_le _,rfl,rfl,isT_pos hT,by simp [Hid],Kept.refl _ _⟩
 case round=>
  obtain ⟨k,q,hk,rfl,rfl,hq,HL,hs⟩:=hrel
  by_cases hlt:k<path.length
  ·have cA:=c1 _ _ hs hq
   obtain ⟨pb,poff,rfl,hpb,hpc⟩:=(hp.same hs).get hlt
   have i1:(0:Int)≤(k:Int):=by omega
   have i2:(k:Int)<(path.length:Int):=by omega
   have hlen:(ofN (argsN L t q)).length=arN L t[q]:=by rw [argsN_eq hq];simp [ofN,starts_length]
   clear c1
   go_wp2_with fail
   refine cA.mono ?_
   rintro e w2 ⟨v,rfl,hr,hk2⟩
   have hpc2:w2.cell? ⟨pb,poff+k,none⟩=some (.int .i64 path[k]):=(hk2.cell (p:=⟨pb,poff+k,none⟩) hpb (fun f=>f)).trans hpc
   have hs2:=hs.trans' hk2
   clear cA hpc
   by_cases hn0:path[k]<0
   ·have H:Hid (leadR L t path = -1):=by
     have:=leads_bad HL.out hlt hq (.inl hn0)
     simp [leadR,this,Hid]
    obtain ⟨vo,vcap,rfl⟩:=row_shape hr
    go_wp2
    go_ret
    exact ⟨ret_int H.out.symm,hs2⟩
   ·by_cases hna:(arN L t[q]:Int)≤path[k]
    ·have H:Hid (leadR L t path = -1):=by
      have:=leads_bad HL.out hlt hq (.inr hna)
      simp [leadR,this,Hid]
     obtain ⟨vo,vcap,rfl⟩:=row_shape hr
     have hna' : ((ofN (argsN L t q)).length:Int)≤path[k]:=by omega
     go_wp2
     go_ret
     exact ⟨ret_int H.out.symm,hs2⟩
    ·obtain ⟨i,hi⟩:∃ i:Nat,path[k]=(i:Int):=⟨path[k].toNat,by omega⟩
     have hia:i<arN L t[q]:=by omega
     have HN:Hid (leads L t 0 path=leads L t (past L t i (q+1)) (path.drop (k+1))):=leads_good HL.out hlt hq hi hia
     have hpl:=past_lt hT hq hia
     obtain ⟨g,vcap,rfl,hg,hgc⟩:=hr.get (i:=i) (by omega)
     have hge:(ofN (argsN L t q))[i]'(by omega)=((past L t i (q+1):Nat):Int):=by
      have e1:=starts_at (L:=L) (t:=t) (p:=q+1) hia
      rw [← argsN_eq hq] at e1
      have e2:=(List.getElem?_eq_some_iff.1 e1).2
      simp [ofN,e2]
     rw [hge] at hgc
     rw [hi] at hpc2
     have j1:(0:Int)≤(i:Int):=by omega
     have j2:(i:Int)<((ofN (argsN L t q)).length:Int):=by omega
     have j3:¬ (ofN (argsN L t q)).length≤i:=by omega
     have j4:decide ((ofN (argsN L t q)).length≤i)=false:=by simp;omega
     clear hge hn0 hna HL hi
     generalize (ofN (argsN L t q)).length=N at *
     generalize past L t i (q+1)=P at *
     go_wp2
     exact ⟨⟨k+1,P,by omega,by go_num,rfl,hpl,HN,hs2⟩,by simp [intOf];omega⟩
  ·have H:Hid (leadR L t path=(q:Int)):=by
    have:=HL.out
    rw [List.drop_eq_nil_of_le (by omega)] at this
    simp [leadR,this,leads,Hid]
   clear c1
   go_wp2
   go_ret
   exact ⟨ret_int H.out.symm,hs⟩
structure Sought (w wr:World) (ov:Value) (ao:Option Addr) (args:List Int) (out:List Int):Prop where
 row:Row w.heap.size wr ov out
 at' : IntsAt wr ao args
 ne:∀ a,ao=some a→ov.ownBlock≠some a.block
 lt:∀ a,ao=some a→a.block<wr.heap.size
 s:Same0 w wr
theorem Sought.push {w wr w' : World} {ov:Value} {ao:Option Addr} {args out:List Int} {g cap:Nat} {x:Int} (h:Sought w wr ov ao args out) (hr:Row w.heap.size w' (.slice (some ⟨g,0,none⟩) (out.length+1) cap) (out ++ [x])) (hk:Kept (fun k=>ov.ownBlock=some k) wr w') (hat:ov.ownBlock=some g∨wr.heap.size≤g) :
  Sought w w' (.slice (some ⟨g,0,none⟩) (out.length+1) cap) ao args (out ++ [x]):=by
 refine ⟨hr,h.at'.kept hk (fun a e=>h.ne a e),?_,fun a e=>Nat.lt_of_lt_of_le (h.lt a e) hk.size,h.s.onto h.row hk⟩
 intro a e e'
 simp only [Value.ownBlock,Option.some.injEq] at e'
 rcases hat with e1 | e1
 ·exact h.ne a e (by rw [e1,e'])
 ·have:=h.lt a e;omega
theorem firsts_cons (i a:Nat) (st:List (Nat × Nat)):firsts ((i,a) :: st)=firsts st ++ [(i:Int)]:=by simp [firsts,ofN]
set_option maxRecDepth 4000 in
set_option maxHeartbeats 8000000 in
theorem rpath_any {n:Nat} {w:World} {rv:Value} {L:List Sym} (h:Rl n w rv L) {ao:Option Addr} {cap:Nat} {t:List Int} (ht:IntsAt w ao t) (hm:t.length≤2000) (hT:IsT L t) (p:Nat) (hp:p<t.length) :
  Calls Tryz.prog 141 #[rv,.slice ao t.length cap,.int .i64 (p:Int)] w fun e w' => ∃ v,e=.returned v∧Row w.heap.size w' v (firsts (way L t p))∧Same0 w w' := by
 have c1:Hid (∀ w1 q,Same0 w w1→q<t.length→Calls Tryz.prog 194 #[rv,.slice ao t.length cap,.int .i64 (q:Int)] w1 fun e w' => ∃ v,e=.returned v∧Row w1.heap.size w' v (ofN (argsN L t q))∧Same0 w1 w'):=fun w1 q hk hq=>rargs_any (cap:=cap) (h.same hk) (ht.same hk) hm hT q hq
 have c2:Hid (∀ w1 q,Same0 w w1→q<t.length→Calls Tryz.prog 195 #[rv,.slice ao t.length cap,.int .i64 (q:Int)] w1 fun e w' => e=.returned (.int .i64 (endN L t q:Int))∧w' = w1):=fun w1 q hk hq=>rend_any (cap:=cap) (h.same hk) (ht.same hk) hm q (by omega)
 have HAR:Hid (∀ x,arN L x≤6):=fun x=>arN_le h.2.2.1 x
 obtain ⟨ro,rcap,rfl⟩:=row_shape h.1
 go_enter Tryz.func141,Tryz.ntmps141
 go_wp2
 go_loopw [7,8] (fun ov hv wr=>∃ h:Nat,hv=.int .i64 (h:Int)∧h≤p∧p<endN L t h∧Row w.heap.size wr ov (firsts (way L t h))∧Same0 w wr) (fun _ hv _=>p-(intOf hv).toNat)
 case atStart=>exact ⟨0,rfl,Nat.zero_le _,by rw [endN_zero hT];exact hp,World.ownsRow_nil _ _ _ _,Kept.refl _ _⟩
 case round=>
  obtain ⟨q0,rfl,hq1,hq2,hr,hs⟩:=hrel
  obtain ⟨oo,ocap,rfl⟩:=row_shape hr
  by_cases hlt:q0<p
  ·have hq0:q0<t.length:=by omega
   obtain ⟨i0,hi0,g1,g2,g3,g4,g5,g6⟩:=kid_in hT hq0 hlt hq2
   have cA:=c1.out wr q0 hs hq0
   have h6:=HAR.out t[q0]
   have hlen:(ofN (argsN L t q0)).length=arN L t[q0]:=by rw [argsN_eq hq0];simp [ofN,starts_length]
   have HG:Hid (∀ j,j<arN L t[q0]→(ofN (argsN L t q0))[j]? = some ((past L t j (q0+1):Nat):Int)∧past L t j (q0+1)<t.length):=fun j hj=>by
    have e1:=starts_at (L:=L) (t:=t) (p:=q0+1) hj
    rw [← argsN_eq hq0] at e1
    exact ⟨by simp [ofN,e1],past_lt hT hq0 hj⟩
   have EW:Hid (firsts (way L t (past L t i0 (q0+1)))=firsts (way L t q0) ++ [(i0:Int)]):=by show _=_;rw [g5,firsts_cons]
   have HU:Hid (∀ j,j<arN L t[q0]→(past L t j (q0+1)≤p∧p<endN L t (past L t j (q0+1)) ↔ j=i0)):=g6
   have hwl:(firsts (way L t q0)).length≤2000:=by rw [firsts_length];have:=way_length L t q0 (by omega);omega
   have hltI:(q0:Int)<(p:Int):=by omega
   clear g5 g6
   go_wp2_with fail
   refine cA.mono ?_
   rintro e w2 ⟨va,rfl,ra,k2⟩
   obtain ⟨aao,acap,rfl,ia,_,hab⟩:=ra.ints
   have S0:Sought w w2 (.slice oo (firsts (way L t q0)).length ocap) aao (ofN (argsN L t q0)) (firsts (way L t q0)):=by
    refine ⟨Kept.row k2 hr (fun _ _ f=>f),ia,?_,fun a e=>(hab a e).2,hs.trans' k2⟩
    intro a e e'
    have:=(hr.lt _ e').2
    have:=(hab a e).1
    omega
   clear cA ra ia hab hr hs k2
   obtain ⟨A,hA⟩:∃ A,A=arN L t[q0]:=⟨_,rfl⟩
   rw [← hA] at hlen HG HU hi0 h6
   generalize hargs:ofN (argsN L t q0)=args at *
   rw [hlen]
   clear hargs hA
   generalize hW:firsts (way L t q0)=W0 at *
   have g1I:¬ (p:Int)<(past L t i0 (q0+1):Int):=by omega
   go_wp2
   obtain ⟨wo,rfl⟩:∃ wo:World,wo=wr:=⟨_,rfl⟩
   go_loopw [7,10,11] (fun ov nv kv wr=>∃ k:Nat,k≤A∧kv=.int .i64 (k:Int)∧((k≤i0∧nv=.int .i64 (q0:Int)∧Sought w wr ov aao args W0)∨(i0<k∧nv=.int .i64 (past L t i0 (q0+1):Int)∧Sought w wr ov aao args (W0 ++ [(i0:Int)])))) (fun _ _ kv _=>A-(intOf kv).toNat)
   case atStart=>exact ⟨0,Nat.zero_le _,rfl,.inl ⟨Nat.zero_le _,rfl,S0⟩⟩
   case round=>
    clear S0
    obtain ⟨k,hkA,rfl,hcase⟩:=hrel
    by_cases hkl:k<A
    ·obtain ⟨hg1,hg2⟩:=HG.out k hkl
     obtain ⟨hgl,hge⟩:=List.getElem?_eq_some_iff.1 hg1
     have hu:=HU.out k hkl
     have m0:(0:Int)≤(k:Int):=by omega
     have m1:(k:Int)<(A:Int):=by omega
     rcases hcase with ⟨hki,rfl,hS⟩ | ⟨hki,rfl,hS⟩
     ·obtain ⟨ab,aoff,rfl,_,hac⟩:=hS.at'.get hgl
      rw [hge] at hac
      have cE:=c2.out wr _ hS.s hg2
      by_cases hke:k=i0
      ·subst hke
       obtain ⟨vo,vcap,rfl⟩:=row_shape hS.row
       have hPp:((past L t k (q0+1):Nat):Int)≤(p:Int):=by omega
       have hpE:(p:Int)<(endN L t (past L t k (q0+1)):Int):=by omega
       have hb8:(W0.length+1) * 8≤140737488355328:=by omega
       have hrow:=hS.row
       have hss:=hS.s.size
       clear hg1 hge hu
       have hacs:∀ w', Kept (fun k=>Value.ownBlock (.slice vo W0.length vcap)=some k) wr w' → w'.cell? ⟨ab,aoff+k,none⟩=some (.int .i64 ((past L t k (q0+1):Nat):Int)):=fun w' hk=>(hk.cell (p:=⟨ab,aoff+k,none⟩) (hS.lt ⟨ab,aoff,none⟩ rfl) (hS.ne ⟨ab,aoff,none⟩ rfl)).trans hac
       have HACS:Hid (∀ w', Kept (fun k=>Value.ownBlock (.slice vo W0.length vcap)=some k) wr w' → w'.cell? ⟨ab,aoff+k,none⟩=some (.int .i64 ((past L t k (q0+1):Nat):Int))):=hacs
       clear hacs
       generalize past L t k (q0+1)=P at *
       go_wp2_with (first | (go_at_call 195;refine cE.mono ?_;rintro e wr ⟨rfl,rfl⟩) | (at_builtin;refine wpList_push rfl _ _ 51 rfl Tryz.underlying51 w.heap.size W0 _ rfl hrow (k:Int) rfl hss hb8 ?_;intro g gcap w4 hr4 hk4 hat4;have hS4:=hS.push hr4 hk4 hat4;have hac4:=HACS.out _ hk4))
       go_roundw
       case rel=>first | exact ⟨k+1,by omega,by go_num,.inr ⟨by omega,rfl,hS4⟩⟩ | ((repeat apply Exists.intro);exact ⟨⟨k+1,by omega,by go_num,.inr ⟨by omega,rfl,hS4⟩⟩,rfl⟩)
       case measure=>simp [intOf];omega
      ·have hno:¬ (past L t k (q0+1)≤p∧p<endN L t (past L t k (q0+1))):=fun e=>hke (hu.1 e)
       obtain ⟨vo,vcap,rfl⟩:=row_shape hS.row
       clear hg1 hge hu
       generalize past L t k (q0+1)=P at *
       by_cases hPp:P≤p
       ·have hPi:((P:Nat):Int)≤(p:Int):=by omega
        have hpE:¬ (p:Int)<(endN L t P:Int):=by omega
        clear hno
        go_wp2_with (first | (go_at_call 195;refine cE.mono ?_;rintro e wr ⟨rfl,rfl⟩))
        go_roundw
        case rel=>first | exact ⟨k+1,by omega,by go_num,.inl ⟨by omega,rfl,hS⟩⟩ | ((repeat apply Exists.intro);exact ⟨⟨k+1,by omega,by go_num,.inl ⟨by omega,rfl,hS⟩⟩,rfl⟩)
        case measure=>simp [intOf];omega
       ·have hPi:¬ ((P:Nat):Int)≤(p:Int):=by omega
        clear hno cE
        go_wp2
        go_roundw
        case rel=>first | exact ⟨k+1,by omega,by go_num,.inl ⟨by omega,rfl,hS⟩⟩ | ((repeat apply Exists.intro);exact ⟨⟨k+1,by omega,by go_num,.inl ⟨by omega,rfl,hS⟩⟩,rfl⟩)
        case measure=>simp [intOf];omega
     ·obtain ⟨ab,aoff,rfl,_,hac⟩:=hS.at'.get hgl
      rw [hge] at hac
      have cE:=c2.out wr _ hS.s hg2
      have hno:¬ (past L t k (q0+1)≤p∧p<endN L t (past L t k (q0+1))):=fun e=>by have:=hu.1 e;omega
      obtain ⟨vo,vcap,rfl⟩:=row_shape hS.row
      have hl1:(W0 ++ [(i0:Int)]).length=W0.length+1:=by simp
      rw [hl1] at hS ⊢
      clear hl1
      clear hg1 hge hu
      generalize past L t k (q0+1)=P at *
      by_cases hPp:P≤p
      ·have hPi:((P:Nat):Int)≤(p:Int):=by omega
       have hpE:¬ (p:Int)<(endN L t P:Int):=by omega
       clear hno
       go_wp2_with (first | (go_at_call 195;refine cE.mono ?_;rintro e wr ⟨rfl,rfl⟩))
       go_roundw
       case rel=>first | exact ⟨k+1,by omega,by go_num,.inr ⟨by omega,rfl,hS⟩⟩ | ((repeat apply Exists.intro);exact ⟨⟨k+1,by omega,by go_num,.inr ⟨by omega,rfl,hS⟩⟩,rfl⟩)
       case measure=>simp [intOf];omega
      ·have hPi:¬ ((P:Nat):Int)≤(p:Int):=by omega
       clear hno cE
       go_wp2
       go_roundw
       case rel=>first | exact ⟨k+1,by omega,by go_num,.inr ⟨by omega,rfl,hS⟩⟩ | ((repeat apply Exists.intro);exact ⟨⟨k+1,by omega,by go_num,.inr ⟨by omega,rfl,hS⟩⟩,rfl⟩)
       case measure=>simp [intOf];omega
    ·obtain rfl:k=A:=by omega
     rcases hcase with ⟨hki,rfl,hS⟩ | ⟨hki,rfl,hS⟩
     ·omega
     ·obtain ⟨vo,vcap,rfl⟩:=row_shape hS.row
      have hrw:=hS.row
      have hs9:=hS.s
      rw [← EW.out] at hrw
      have hne:((past L t i0 (q0+1):Int) == (q0:Int))=false:=by simp;omega
      have hne' : ¬ (past L t i0 (q0+1):Int)=(q0:Int):=by omega
      have hne'' : ¬ past L t i0 (q0+1)=q0:=by omega
      clear hS
      rw [← EW.out]
      generalize hPP:past L t i0 (q0+1)=P at *
      go_wp2
      go_roundw
      case rel=>first | exact ⟨P,rfl,g1,g2,hrw,hs9⟩ | ((repeat apply Exists.intro);exact ⟨⟨P,rfl,g1,g2,hrw,hs9⟩,rfl⟩)
      case measure=>simp [intOf];omega
  ·obtain rfl:q0=p:=by omega
   go_wp2
   go_ret
   exact ⟨_,rfl,hr,hs⟩
end Go.Proofs.YtmjgnfkbnofjoaaGreatDoor
namespace Go.Proofs.YtmjgnfkbnofjoaaGreatDoor
set_option maxRecDepth 100000
set_option linter.unusedVariables false
open Go.RowKit
attribute [local go_sem ↓] Go.wp_at_zero Go.wp_at_succ
theorem row_one8 (w:World) (base:Nat) (hb:base≤w.heap.size) (z:Int):Row base (w.alloc (.cells #[.int .i64 z] 3)) (.slice (some ⟨w.heap.size,0,none⟩) 1 1) [z]:=
 ⟨rfl,.inr ⟨w.heap.size,1, #[.int .i64 z],rfl,hb,heap_alloc_new w _,Nat.le_refl _,by unfold maxLen;omega,rfl,rfl⟩⟩
set_option maxHeartbeats 2000000 in
theorem at8_any {n:Nat} {w:World} {rv:Value} {L:List Sym} (h:Rl n w rv L) {ao po:Option Addr} {cap pcap:Nat} {t path:List Int} (ht:IntsAt w ao t) (hm:t.length≤2000) (hT:IsT L t) (hp:IntsAt w po path) (hpm:path.length≤maxLen) {q:Nat} (hq:leads L t 0 path=some q) (hlt:q<t.length) :
  Calls Tryz.prog 142 #[rv,.slice ao t.length cap,.slice po path.length pcap] w fun e w' => e=.returned (.int .i64 t[q])∧Same0 w w' := by
 have C:=rfrom_any (cap:=cap) (pcap:=pcap) h ht hm hT hp hpm
 have e0:leadR L t path=(q:Int):=by simp [leadR,hq]
 rw [e0] at C
 obtain ⟨ro,rcap,rfl⟩:=row_shape h.1
 obtain ⟨tb,off,rfl,htb,hc⟩:=ht.get hlt
 have HC:Hid (∀ ww,Same0 w ww→ww.cell? ⟨tb,off+q,none⟩=some (.int .i64 t[q])):=fun ww hk=>(hk.cell (p:=⟨tb,off+q,none⟩) htb (fun f=>f)).trans hc
 have i1:(0:Int)≤(q:Int):=by omega
 have i2:(q:Int)<(t.length:Int):=by omega
 have i3:¬ (q:Int)<0:=by omega
 clear h ht hp hq hc e0 hT
 generalize t[q]=x at *
 go_enter Tryz.func142,Tryz.ntmps142
 go_wp2_with (first | (go_at_call 196;refine C.mono ?_;rintro e w1 ⟨rfl,k1⟩;have hc1:=HC.out w1 k1))
 go_ret
 exact ⟨rfl,k1⟩
set_option maxHeartbeats 2000000 in
theorem fresh8_any {n:Nat} {w:World} {rv:Value} {L:List Sym} (h:Rl n w rv L) {c:Nat} (hc:c<L.length) :
  Calls Tryz.prog 99 #[rv,.int .i64 (c:Int)] w fun e w' => ∃ v,e=.returned v∧Row w.heap.size w' v (freshN L c)∧Same0 w w' := by
 have h6:=arN_le h.2.2.1 (c:Int)
 have CA:∀ ww,Same0 w ww→Calls Tryz.prog 144 #[rv,.int .i64 (c:Int)] ww fun e w' => e=.returned (.int .i64 (arN L (c:Int):Int))∧w' = ww:=fun ww hk=>by
  have:=rArity_any (h.same hk) (c:Int)
  rw [if_neg (by omega)] at this
  exact this
 have CAH:Hid (∀ ww,Same0 w ww→Calls Tryz.prog 144 #[rv,.int .i64 (c:Int)] ww fun e w' => e=.returned (.int .i64 (arN L (c:Int):Int))∧w' = ww):=CA
 have FR:Hid (∀ k,k≤arN L (c:Int)→((c:Int) :: List.replicate k (-1)) ++ [-1]=(c:Int) :: List.replicate (k+1) (-1)):=fun k _=>by
  rw [List.replicate_succ'];rfl
 have FE:Hid (freshN L c=(c:Int) :: List.replicate (arN L (c:Int)) (-1)):=rfl
 obtain ⟨ro,rcap,rfl⟩:=row_shape h.1
 obtain ⟨A,hA⟩:∃ A,A=arN L (c:Int):=⟨_,rfl⟩
 rw [← hA] at CAH FR FE h6
 clear CA hA h
 have S0:Same0 w (w.alloc (.cells #[.int .i64 (c:Int)] 3)):=(Kept.refl _ w).alloc _
 have R0:Row w.heap.size (w.alloc (.cells #[.int .i64 (c:Int)] 3)) (.slice (some ⟨w.heap.size,0,none⟩) 1 1) [(c:Int)]:=row_one8 w w.heap.size (Nat.le_refl _) (c:Int)
 go_enter Tryz.func99,Tryz.ntmps99
 go_wp2
 go_loopw [5,6] (fun v i wr=>∃ k:Nat,k≤A∧i=.int .i64 (k:Int)∧Row w.heap.size wr v ((c:Int) :: List.replicate k (-1))∧Same0 w wr) (fun _ i _=>A-(intOf i).toNat)
 case atStart=>exact ⟨0,Nat.zero_le _,rfl,R0,S0⟩
 case round=>
  clear R0 S0
  obtain ⟨k,hk,rfl,hr,hs⟩:=hrel
  obtain ⟨vo,vc,rfl⟩:=row_shape hr
  have C1:=CAH.out wr hs
  by_cases hlt:k<A
  ·have i2:(k:Int)<(A:Int):=by omega
   have E:=FR.out k (by omega)
   have HE:Hid (((c:Int) :: List.replicate k (-1)) ++ [-1]=(c:Int) :: List.replicate (k+1) (-1)):=E
   have zA:=hs.size
   have hlen:((c:Int) :: List.replicate k (-1)).length=k+1:=by simp
   have hb8:(((c:Int) :: List.replicate k (-1)).length+1) * 8≤140737488355328:=by omega
   clear E hlen
   generalize ((c:Int) :: List.replicate k (-1))=xs at *
   go_wp2_with (first | (go_at_call 144;refine C1.mono ?_;rintro e w1 ⟨rfl,rfl⟩) | (at_builtin;refine wpList_push rfl _ _ 74 rfl Tryz.underlying74 w.heap.size xs _ rfl hr (-1) rfl zA hb8 ?_;intro g cap w4 hr4 hk4 hat4))
   refine ⟨⟨k+1,by omega,by go_num,?_,Kept.trans hs hk4 (fun i hi e=>by have:=(hr.lt i e).1;omega)⟩,by simp [intOf];omega⟩
   rw [← HE.out]
   exact hr4
  ·obtain rfl:k=A:=by omega
   have hlen:((c:Int) :: List.replicate k (-1)).length=k+1:=by simp
   rw [hlen] at hr
   clear hlen
   go_wp2_with (first | (go_at_call 144;refine C1.mono ?_;rintro e w1 ⟨rfl,rfl⟩))
   go_ret
   exact ⟨_,rfl,by rw [FE.out];exact hr,hs⟩
def PlcZ (L:List Sym) (t:List Int) (rows:List Rw) (z:Int):Prop:=
 (z = -1∧partN rows (vpS L [] t).length=none)∨∃ p:Nat,z=(p:Int)∧∃ hp:p<t.length,t[p]<0∧partN rows (vpS L [] t).length=some (colN L t p)
structure NdD (w:World) (L:List Sym) (R:List Ru) (n:Nat) (rv:Value) (mo tn so:Option Addr) (tc:Nat) (t:List Int) (rows:List Rw):Prop where
 rl:Rl w.heap.size w rv L
 rs:RsAt w mo R
 le:R.length≤100
 ti:IntsAt w tn t
 cap:t.length≤tc
 si:IntsAt w so (rows.map (·.1))
 dn:DocN L R t rows
 nk:NdOk L n (vpS L [] t) rows
theorem NdD.same {w w' : World} {L:List Sym} {R:List Ru} {n:Nat} {rv:Value} {mo tn so:Option Addr} {tc:Nat} {t:List Int} {rows:List Rw} (h:NdD w L R n rv mo tn so tc t rows) (hk:Same0 w w'):NdD w' L R n rv mo tn so tc t rows:=
 ⟨rl_up (h.rl.same hk) hk.size,h.rs.same hk,h.le,h.ti.same hk,h.cap,h.si.same hk,h.dn,h.nk⟩
theorem partN_grow {rows:List Rw} {c:Nat} (h:partN rows c=none):(conB rows c=true→∀ k,c<k→partN rows k=some c)∧(conB rows c=false→partN rows (c+1)=none):=by
 refine ⟨fun hc k hk=>?_,fun hc=>?_⟩
 ·induction k with
  | zero=>omega
  | succ k ih=>
   unfold partN
   by_cases e:c=k
   ·subst e;rw [h,hc];rfl
   ·rw [ih (by omega)]
 ·unfold partN;rw [h,hc];rfl
theorem conB_take {rows:List Rw} {c k:Nat} (h:k<rows.length):conB (rows.take (k+1)) c=(conB (rows.take k) c && decide (0≤numR rows[k] c)):=by
 unfold conB
 rw [List.take_add_one,List.getElem?_eq_getElem h,List.all_append]
 simp
theorem NdD.at' {w:World} {L:List Sym} {R:List Ru} {n:Nat} {rv:Value} {mo tn so:Option Addr} {tc:Nat} {t:List Int} {rows:List Rw} (h:NdD w L R n rv mo tn so tc t rows) {k:Nat} (hk:k<rows.length) {c:Nat} (hc:c<(vpS L [] t).length) :
  ∃ sb soff mb moff,so=some ⟨sb,soff,none⟩∧mo=some ⟨mb,moff,none⟩∧∃ j:Nat,j<R.length∧rows[k].1=(j:Int)∧∀ ww,Same0 w ww→ww.cell? ⟨sb,soff+k,none⟩=some (.int .i64 (j:Int))∧∃ ao al ac,ww.cell? ⟨mb,moff+j * 2,none⟩=some (.slice ao al ac) ∧
   ∀ po pc,IntsAt ww po (vpS L [] t)[c]→Calls Tryz.prog 142 #[rv,.slice ao al ac,.slice po (vpS L [] t)[c].length pc] ww fun e w' => e=.returned (.int .i64 (numR rows[k] c))∧Same0 ww w' := by
 obtain ⟨j,hj,e1,e2⟩:=h.dn.row _ (List.getElem_mem hk)
 obtain ⟨k1,k2,k3,_⟩:=h.nk.ok _ (List.getElem_mem hk)
 have hz:=checkE_zero.1 k1
 have hc' : c<rows[k].2.2.length:=by omega
 have hq:=k3 _ (List.getElem_mem hc')
 have hl:=(h.dn.led _ (List.getElem_mem hk)).at hc hc'
 have hn:=numR_eq hc' hq
 have hpl:=(h.nk.len _ (List.getElem_mem hc)).2
 have hsk:k<(rows.map (·.1)).length:=by simpa using hk
 obtain ⟨sb,soff,rfl,hsb,hsc⟩:=h.si.get hsk
 obtain ⟨mb,moff,rfl,hmb,ao,ac,bo,bc,r0,r1,A1,_⟩:=h.rs.get hj
 refine ⟨sb,soff,mb,moff,rfl,rfl,j,hj,e1,fun ww hw=>⟨?_,ao,rows[k].2.1.length,ac,(by rw [e2];exact (hw.cell (p:=⟨mb,moff+j * 2,none⟩) hmb (fun f=>f)).trans r0),fun po pc hp=>?_⟩⟩
 ·have:=(hw.cell (p:=⟨sb,soff+k,none⟩) hsb (fun f=>f)).trans hsc
  rw [this,List.getElem_map,e1]
 ·rw [hn]
  have A2:IntsAt ww ao rows[k].2.1:=by rw [e2];exact (A1.same hw).at'
  exact at8_any (cap:=ac) (pcap:=pc) (h.same hw).rl A2 hz.1 hz.2.2 hp (by unfold maxLen;omega) hl hq
set_option maxHeartbeats 8000000 in
theorem place8_any {w:World} {L:List Sym} {R:List Ru} {n:Nat} {rv:Value} {mo tn so:Option Addr} {tc:Nat} {t:List Int} {rows:List Rw} (h:NdD w L R n rv mo tn so tc t rows) (hm:t.length≤2000) (mc sc:Nat) :
  Calls Tryz.prog 140 #[rv,.slice mo R.length mc,.slice tn t.length tc,.slice so rows.length sc] w fun e w' => ∃ z,e=.returned (.int .i64 z)∧Hid (PlcZ L t rows z)∧Same0 w w' := by
 have hrl:=h.nk.le
 have hRl:=h.le
 have CP:Hid (∀ ww i,Same0 w ww→i<t.length→Calls Tryz.prog 141 #[rv,.slice tn t.length tc,.int .i64 (i:Int)] ww fun e w' => ∃ po pc,e=.returned (.slice po (firsts (way L t i)).length pc)∧Hid (IntsAt w' po (firsts (way L t i)))∧Same0 ww w'):=fun ww i hk hi=>(rpath_any (cap:=tc) (h.same hk).rl (h.ti.same hk) hm h.dn.isT i hi).mono (fun e w' ⟨v,e1,r,k⟩=>by
  obtain ⟨ao,cap,rfl,ia,_,_⟩:=r.ints
  exact ⟨ao,cap,e1,ia,k⟩)
 have HH:Hid (∀ ww,Same0 w ww→NdD ww L R n rv mo tn so tc t rows):=fun ww hk=>h.same hk
 obtain ⟨ro,rcap,rfl⟩:=row_shape h.rl.1
 clear h
 go_enter Tryz.func140,Tryz.ntmps140
 go_wp2
 go_loopw [9] (fun i wr=>∃ k:Nat,k≤t.length∧i=.int .i64 (k:Int)∧Hid (partN rows (colN L t k)=none)∧Same0 w wr) (fun i _=>t.length-(intOf i).toNat)
 case atStart=>exact ⟨0,Nat.zero_le _,rfl,rfl,Kept.refl _ _⟩
 case round=>
  obtain ⟨k,hk,rfl,hN,hs⟩:=hrel
  by_cases hlt:k<t.length
  ·obtain ⟨tb,toff,rfl,htb,htc⟩:=(HH.out wr hs).ti.get hlt
   have i1:(0:Int)≤(k:Int):=by omega
   have i2:(k:Int)<(t.length:Int):=by omega
   by_cases hv:t[k]<0
   ·have hv2:¬ (0:Int)≤t[k]:=by omega
    have hcl:=col_lt (L:=L) hlt hv
    have hcn:=col_next (L:=L) hlt
    rw [if_pos hv] at hcn
    have HCN:Hid (colN L t (k+1)=colN L t k+1):=hcn
    have hpc:(vpS L [] t)[colN L t k]=firsts (way L t k):=by
     have:=col_get (L:=L) hlt hv
     rw [List.getElem?_eq_getElem hcl] at this
     simpa using this
    have C1:=CP.out wr k hs hlt
    have PZ:Hid (conB rows (colN L t k)=true→PlcZ L t rows (k:Int)):=fun hc=>.inr ⟨k,rfl,hlt,hv,(partN_grow hN.out).1 hc _ hcl⟩
    have NZ:Hid (conB rows (colN L t k)=false→partN rows (colN L t (k+1))=none):=fun hc=>by rw [HCN.out];exact (partN_grow hN.out).2 hc
    have HA:Hid (∀ ww,Same0 w ww→∀ (m:Nat) (hm:m<rows.length),∃ sb soff mb moff,so=some ⟨sb,soff,none⟩∧mo=some ⟨mb,moff,none⟩∧∃ j:Nat,j<R.length∧ww.cell? ⟨sb,soff+m,none⟩=some (.int .i64 (j:Int))∧∃ ao al ac,ww.cell? ⟨mb,moff+j * 2,none⟩=some (.slice ao al ac)∧∀ po pc,IntsAt ww po (firsts (way L t k))→Calls Tryz.prog 142 #[.slice ro L.length rcap,.slice ao al ac,.slice po (firsts (way L t k)).length pc] ww fun e w' => e=.returned (.int .i64 (numR rows[m] (colN L t k)))∧Same0 ww w'):=fun ww hk2 m hm2=>by
     obtain ⟨sb,soff,mb,moff,e1,e2,j,hj,e3,HF⟩:=(HH.out ww hk2).at' hm2 hcl
     obtain ⟨f1,ao,al,ac,f2,CA⟩:=HF ww (Kept.refl _ _)
     rw [hpc] at CA
     exact ⟨sb,soff,mb,moff,e1,e2,j,hj,f1,ao,al,ac,f2,CA⟩
    have C0:conB (rows.take 0) (colN L t k)=true:=rfl
    clear hcl hcn hpc hv HCN HH CP hN
    generalize colN L t k=c at *
    generalize firsts (way L t k)=P at *
    go_wp2_with (first | (go_at_call 141;refine C1.mono ?_;rintro e w2 ⟨po,pc,rfl,hpi,k2⟩))
    have hs2:Same0 w w2:=hs.trans' k2
    have HPI:Hid (∀ ww,Same0 w2 ww→IntsAt ww po P):=fun ww hk=>hpi.out.same hk
    clear C1 hpi
    obtain ⟨wo,rfl⟩:∃ wo:World,wo=wr:=⟨_,rfl⟩
    go_loopw [11,12] (fun av kv wi=>∃ m:Nat,m≤rows.length∧kv=.int .i64 (m:Int)∧av=.bool (conB (rows.take m) c)∧Same0 w2 wi) (fun _ kv _=>rows.length-(intOf kv).toNat)
    case atStart=>exact ⟨0,Nat.zero_le _,rfl,rfl,Kept.refl _ _⟩
    case round=>
     obtain ⟨m,hml,rfl,rfl,hsi⟩:=hrel
     by_cases hmlt:m<rows.length
     ·obtain ⟨sb,soff,mb,moff,rfl,rfl,j,hj,f1,ao,al,ac,f2,CA⟩:=HA.out _ (hs2.trans' hsi) m hmlt
      have C2:=CA po pc (HPI.out _ hsi)
      have CT:Hid (conB (rows.take (m+1)) c=(conB (rows.take m) c && decide (0≤numR rows[m] c))):=conB_take hmlt
      have j1:(0:Int)≤(m:Int):=by omega
      have j2:(m:Int)<(rows.length:Int):=by omega
      have j3:(0:Int)≤(j:Int):=by omega
      have j4:(j:Int)<(R.length:Int):=by omega
      clear CA HA hj PZ NZ
      by_cases hz:numR rows[m] c<0
      ·have CF:Hid (conB (rows.take (m+1)) c=false):=by show _=_;rw [CT.out];simp;omega
       clear CT
       generalize numR rows[m] c=z at *
       go_wp2_with (first | (go_at_call 142;refine C2.mono ?_;rintro e w5 ⟨rfl,k5⟩))
       go_roundw
       case rel=>exact ⟨m+1,by omega,by go_num,by rw [CF.out],hsi.trans' k5⟩
       case measure=>simp [intOf];omega
      ·have CF:Hid (conB (rows.take (m+1)) c=conB (rows.take m) c):=by
        show _=_
        have e0:decide (0≤numR rows[m] c)=true:=by simp;omega
        rw [CT.out,e0,Bool.and_true]
       clear CT
       generalize numR rows[m] c=z at *
       generalize conB (rows.take m) c=bb at *
       go_wp2_with (first | (go_at_call 142;refine C2.mono ?_;rintro e w5 ⟨rfl,k5⟩))
       go_roundw
       case rel=>exact ⟨m+1,by omega,by go_num,by rw [CF.out],hsi.trans' k5⟩
       case measure=>simp [intOf];omega
     ·obtain rfl:m=rows.length:=by omega
      rw [List.take_length]
      clear HA
      cases hb:conB rows c with
      | true=>
       have P1:Hid (PlcZ L t rows (k:Int)):=PZ.out hb
       clear PZ NZ hb C0
       go_wp2_with fail
       go_ret
       exact ⟨_,rfl,P1,hs2.trans' hsi⟩
      | false=>
       have P1:Hid (partN rows (colN L t (k+1))=none):=NZ.out hb
       clear PZ NZ hb C0
       go_wp2_with fail
       go_roundw
       case rel=>exact ⟨k+1,by omega,by go_num,P1,hs2.trans' hsi⟩
       case measure=>simp [intOf];omega
   ·have hv2:(0:Int)≤t[k]:=by omega
    have hcn:=col_next (L:=L) hlt
    rw [if_neg hv] at hcn
    have P1:Hid (partN rows (colN L t (k+1))=none):=by show _=_;rw [hcn];exact hN.out
    clear hcn hN
    go_wp2_with fail
    go_roundw
    case rel=>exact ⟨k+1,by omega,by go_num,P1,hs⟩
    case measure=>simp [intOf];omega
  ·obtain rfl:k=t.length:=by omega
   have P1:Hid (PlcZ L t rows (-1)):=.inl ⟨rfl,by rw [← col_all (L:=L)];exact hN.out⟩
   clear hN
   go_wp2_with fail
   go_ret
   exact ⟨_,rfl,P1,hs⟩
theorem wpList_kid {w0 W:World} {ops:Array Oper} {rest:List Oper} {o:Oper} {a:Act} {Q:Exit→Act→World→Prop} (hgd:o.guard=none) (s x:Operand)
  (ho:o.op=.call { callee:=.builtin .append,args:=#[s,x],argTypes:=#[61,61] })
  (base N:Nat) (vs:List Value) (v:Value) (hs:a.eval s=v) (hW:Same0 w0 W) (hr:w0.ownsRow base 161 5 v N vs) (A C D F G:Value) (q:Nat) (hx:a.eval x=.slice (some ⟨q,0,none⟩) 1 1) (hq:W.heap[q]? = some (.cells #[A,C,D,F,G] 161 (0,0))) (hA:A.oneCell' = true) (hC:C.oneCell' = true) (hD:D.oneCell' = true) (hF:F.oneCell' = true) (hG:G.oneCell' = true) (hb:base≤w0.heap.size) (hsz:N≤1000)
  (h:∀ g cap w', w'.ownsRow base 161 5 (.slice (some ⟨g,0,none⟩) (N+1) cap) (N+1) (vs ++ [A,C,D,F,G])→Kept (fun k=>v.ownBlock=some k) w0 w' → (v.ownBlock=some g∨w0.heap.size≤g)→wpList Tryz.prog ops Q rest (a.put o.dst (.slice (some ⟨g,0,none⟩) (N+1) cap)) w') :
  wpList Tryz.prog ops Q (o :: rest) a W:=by
 obtain ⟨i,hi,hz0,hz1,hz2⟩:=info_parts info_kid
 refine wpList_append_lies _ hgd s x 61 ho base 161 i _ 5 72 Tryz.underlying61 hi hz0 hz1 hz2 rfl (by decide) v N vs hs (hW.row hr (fun _ _ f=>f)) ⟨q,0,none⟩ 1 1 [A,C,D,F,G] hx rfl (World.news_of_block (cs:=#[A,C,D,F,G]) (t:=161) (fr:=(0,0)) hq) (by intro u hu;simp at hu;rcases hu with rfl | rfl | rfl | rfl | rfl <;> assumption) (by omega) (by unfold maxLen;omega) (by omega) (Nat.le_trans hb hW.size) W.heap.size rfl ?_
 intro g cap w' hown hgrow hat hlt
 exact h g cap w' hown (Kept.grown (Kept.mono hW (fun _ _ f=>f.elim)) hgrow (fun _ e _=>e)) (hat.imp id (fun e=>by have:=hW.size;omega))
def NodeOut {n:Nat} (w:World) (r:Except Int (Tr n)) (e:Ending) (w' : World):Prop:=
 match r with
 | .ok t=>∃ v,e=.returned (.tuple #[v,.int .i64 (-1)])∧CsB (fun b=>w.heap.size≤b) w' n v t∧Same0 w w'
 | .error z=>e=.returned (.tuple #[zeroC,.int .i64 z])∧0≤z∧Same0 w w'
def NodeIH (L:List Sym) (R:List Ru) (n:Nat):Prop:=∀ (w:World) (rv:Value) (mo tn so:Option Addr) (tc:Nat) (t:List Int) (rows:List Rw),NdD w L R n rv mo tn so tc t rows→∀ mc sc:Nat,
 Calls Tryz.prog 98 #[rv,.slice mo R.length mc,.slice tn t.length tc,.slice so rows.length sc] w (NodeOut w (growF L n (vpS L [] t) rows))
theorem res_put {w:World} {x0 x1 x2 x3:Value} (ww:World) (hk:Same0 (w.alloc zeroCs) ww):((((((ww.setCell ⟨w.heap.size,0,none⟩ x0).setCell ⟨w.heap.size,1,none⟩ x1).setCell ⟨w.heap.size,2,none⟩ x2).setCell ⟨w.heap.size,3,none⟩ x3).cell? ⟨w.heap.size,0,none⟩=some x0)∧((((ww.setCell ⟨w.heap.size,0,none⟩ x0).setCell ⟨w.heap.size,1,none⟩ x1).setCell ⟨w.heap.size,2,none⟩ x2).setCell ⟨w.heap.size,3,none⟩ x3).cell? ⟨w.heap.size,1,none⟩=some x1∧((((ww.setCell ⟨w.heap.size,0,none⟩ x0).setCell ⟨w.heap.size,1,none⟩ x1).setCell ⟨w.heap.size,2,none⟩ x2).setCell ⟨w.heap.size,3,none⟩ x3).cell? ⟨w.heap.size,2,none⟩=some x2∧((((ww.setCell ⟨w.heap.size,0,none⟩ x0).setCell ⟨w.heap.size,1,none⟩ x1).setCell ⟨w.heap.size,2,none⟩ x2).setCell ⟨w.heap.size,3,none⟩ x3).cell? ⟨w.heap.size,3,none⟩=some x3)∧Kept (fun q=>q=w.heap.size) ww ((((ww.setCell ⟨w.heap.size,0,none⟩ x0).setCell ⟨w.heap.size,1,none⟩ x1).setCell ⟨w.heap.size,2,none⟩ x2).setCell ⟨w.heap.size,3,none⟩ x3)∧Same0 w ((((ww.setCell ⟨w.heap.size,0,none⟩ x0).setCell ⟨w.heap.size,1,none⟩ x1).setCell ⟨w.heap.size,2,none⟩ x2).setCell ⟨w.heap.size,3,none⟩ x3):=by
 have rs:ww.heap[w.heap.size]? = some (.cells #[.int .i64 0,.int .i64 0,.slice none 0 0,.slice none 0 0] 63 (0,0)):=hk.at0 (heap_alloc_new w _)
 have s3:=setAt (setAt (setAt (setAt rs 0 x0) 1 x1) 2 x2) 3 x3
 have k1:=Kept.setCell (p:=⟨w.heap.size,0,none⟩) (Kept.refl (fun q=>q=w.heap.size) ww) (fun _=>rfl) x0
 have k2:=Kept.setCell (p:=⟨w.heap.size,1,none⟩) k1 (fun _=>rfl) x1
 have k3:=Kept.setCell (p:=⟨w.heap.size,2,none⟩) k2 (fun _=>rfl) x2
 have k4:=Kept.setCell (p:=⟨w.heap.size,3,none⟩) k3 (fun _=>rfl) x3
 have ka:Same0 w (w.alloc zeroCs):=(Kept.refl _ w).alloc _
 exact ⟨⟨cellAt s3 0,cellAt s3 1,cellAt s3 2,cellAt s3 3⟩,k4,Kept.trans (ka.trans' hk) k4 (fun i hi e=>by have e' : i=w.heap.size:=e;omega)⟩
theorem res_get {w:World} (ww:World) (hk:Same0 (w.alloc zeroCs) ww):(ww.cell? ⟨w.heap.size,0,none⟩=some (.int .i64 0)∧ww.cell? ⟨w.heap.size,1,none⟩=some (.int .i64 0)∧ww.cell? ⟨w.heap.size,2,none⟩=some (.slice none 0 0)∧ww.cell? ⟨w.heap.size,3,none⟩=some (.slice none 0 0))∧ww.frozen? ⟨w.heap.size,0,none⟩=false∧ww.frozen? ⟨w.heap.size,1,none⟩=false∧ww.frozen? ⟨w.heap.size,2,none⟩=false∧ww.frozen? ⟨w.heap.size,3,none⟩=false:=by
 have rs:ww.heap[w.heap.size]? = some (.cells #[.int .i64 0,.int .i64 0,.slice none 0 0,.slice none 0 0] 63 (0,0)):=hk.at0 (heap_alloc_new w _)
 exact ⟨⟨cellAt rs 0,cellAt rs 1,cellAt rs 2,cellAt rs 3⟩,frozenAt rs 0,frozenAt rs 1,frozenAt rs 2,frozenAt rs 3⟩
set_option maxHeartbeats 4000000 in
theorem node_zero {L:List Sym} {R:List Ru} {n:Nat} {w:World} {rv:Value} {mo tn so:Option Addr} {tc:Nat} {t:List Int} (mc sc:Nat) (hrv:∃ ro rc,rv=.slice ro L.length rc) :
  Calls Tryz.prog 98 #[rv,.slice mo R.length mc,.slice tn t.length tc,.slice so 0 sc] w (@NodeOut (n+1) w (.ok (3,0,[],[]))):=by
 obtain ⟨ro,rc,rfl⟩:=hrv
 obtain ⟨⟨r0,r1,r2,r3⟩,f0,f1,f2,f3⟩:=res_get (w.alloc zeroCs) (Kept.refl _ _)
 go_enter Tryz.func98,Tryz.ntmps98
 go_wp2
 exact bodyPost_ret (v:=.tuple #[.agg #[.int .i64 3,.int .i64 0,.slice none 0 0,.slice none 0 0],.int .i64 (-1)]) (by simp [results,Tryz.results98,go_sem]) rfl ⟨_,rfl,leaf_cs _ _ _ _ _,(Kept.refl _ w).alloc _⟩
theorem place_none {w:World} {L:List Sym} {R:List Ru} {n:Nat} {rv:Value} {mo tn so:Option Addr} {tc:Nat} {t:List Int} {rows:List Rw} (h:NdD w L R n rv mo tn so tc t rows) (hne:rows≠[]) (hp:partN rows (vpS L [] t).length=none) (mc sc:Nat) :
  Calls Tryz.prog 140 #[rv,.slice mo R.length mc,.slice tn t.length tc,.slice so rows.length sc] w fun e w' => e=.returned (.int .i64 (-1))∧Same0 w w' := by
 refine (place8_any h (h.dn.small h.nk hne) mc sc).mono ?_
 rintro e w' ⟨z,rfl,hz,hk⟩
 rcases hz.out with ⟨rfl,_⟩ | ⟨p,_,_,_,hq⟩
 ·exact ⟨rfl,hk⟩
 ·rw [hp] at hq;cases hq
theorem head_row {rows:List Rw} (h:0<rows.length):rows.headD (0,[],[])=rows[0]:=by
 cases rows with
 | nil=>simp at h
 | cons x r=>rfl
set_option maxHeartbeats 8000000 in
theorem node_leaf {L:List Sym} {R:List Ru} {n:Nat} {w:World} {rv:Value} {mo tn so:Option Addr} {tc:Nat} {t:List Int} {rows:List Rw} (h:NdD w L R (n+1) rv mo tn so tc t rows) (h1:rows.length=1) (hp:partN rows (vpS L [] t).length=none) (mc sc:Nat) :
  Calls Tryz.prog 98 #[rv,.slice mo R.length mc,.slice tn t.length tc,.slice so rows.length sc] w (@NodeOut (n+1) w (.ok (1,(rows.headD (0,[],[])).1,[],[]))):=by
 have hne:rows≠[]:=fun e=>by rw [e] at h1;simp at h1
 have ka:Same0 w (w.alloc zeroCs):=(Kept.refl _ w).alloc _
 have CP:=place_none (h.same ka) hne hp mc sc
 obtain ⟨ro,rc,rfl⟩:=row_shape h.rl.1
 have hl0:0<rows.length:=by omega
 have hl0' : 0<(rows.map (·.1)).length:=by simpa using hl0
 obtain ⟨sb,soff,rfl,hsb,hsc⟩:=h.si.get hl0'
 have HS:Hid (∀ ww,Same0 (w.alloc zeroCs) ww→ww.cell? ⟨sb,soff,none⟩=some (.int .i64 (rows.headD (0,[],[])).1)):=fun ww hk=>by
  have:=((ka.trans' hk).cell (p:=⟨sb,soff+0,none⟩) hsb (fun f=>f)).trans hsc
  rw [head_row hl0]
  simpa using this
 have i1:(0:Int)<(rows.length:Int):=by omega
 have e0:((rows.length:Int) == 0)=false:=by rw [h1];rfl
 have e1:((rows.length:Int) == 1)=true:=by rw [h1];rfl
 obtain ⟨W1,hW1⟩:∃ W1,W1=w.alloc zeroCs:=⟨_,rfl⟩
 have HW:Hid (W1=w.alloc zeroCs):=hW1
 rw [← hW1] at CP HS
 clear h hp hsc hl0' hl0 hne ka
 generalize rows.length=N at *
 generalize (rows.headD (0,[],[])).1=z at *
 go_enter Tryz.func98,Tryz.ntmps98
 go_upto_region 3 with fail
 rw [← hW1]
 clear hW1 h1
 go_upto_region 5 with (first | (go_at_call 140;refine CP.mono ?_;rintro e w2 ⟨rfl,k2⟩))
 have k2' : Same0 (w.alloc zeroCs) w2:=by rw [← HW.out];exact k2
 obtain ⟨⟨r0,r1,r2,r3⟩,f0,f1,f2,f3⟩:=res_get w2 k2'
 have d0:=HS.out w2 k2
 obtain ⟨⟨g0,g1,g2,g3⟩,kk,ks⟩:=res_put (w:=w) (x0:=.int .i64 1) (x1:=.int .i64 z) (x2:=.slice none 0 0) (x3:=.slice none 0 0) w2 k2'
 have GG:Hid (_∧_∧_∧_):=⟨g0,g1,g2,g3⟩
 have KS:Hid (Same0 _ _):=ks
 clear g0 g1 g2 g3 kk ks CP
 go_wp2
 obtain ⟨g0,g1,g2,g3⟩:=GG.out
 exact bodyPost_ret (v:=.tuple #[.agg #[.int .i64 1,.int .i64 z,.slice none 0 0,.slice none 0 0],.int .i64 (-1)]) (by simp [results,Tryz.results98,go_sem,g0,g1,g2,g3]) rfl ⟨_,rfl,leaf_cs _ _ _ _ _,KS.out⟩
set_option maxHeartbeats 8000000 in
theorem node_fork {L:List Sym} {R:List Ru} {n:Nat} {w:World} {rv:Value} {mo tn so:Option Addr} {tc:Nat} {t:List Int} {rows:List Rw} (h:NdD w L R (n+1) rv mo tn so tc t rows) (h0:¬ rows.length=0) (h1:¬ rows.length=1) (hp:partN rows (vpS L [] t).length=none) (mc sc:Nat) :
  Calls Tryz.prog 98 #[rv,.slice mo R.length mc,.slice tn t.length tc,.slice so rows.length sc] w (@NodeOut (n+1) w (.error (rows.headD (0,[],[])).1)):=by
 have hne:rows≠[]:=fun e=>by rw [e] at h0;simp at h0
 have ka:Same0 w (w.alloc zeroCs):=(Kept.refl _ w).alloc _
 have CP:=place_none (h.same ka) hne hp mc sc
 obtain ⟨ro,rc,rfl⟩:=row_shape h.rl.1
 have hl0:0<rows.length:=by omega
 have hl0' : 0<(rows.map (·.1)).length:=by simpa using hl0
 obtain ⟨sb,soff,rfl,hsb,hsc⟩:=h.si.get hl0'
 have HS:Hid (∀ ww,Same0 (w.alloc zeroCs) ww→ww.cell? ⟨sb,soff,none⟩=some (.int .i64 (rows.headD (0,[],[])).1)):=fun ww hk=>by
  have:=((ka.trans' hk).cell (p:=⟨sb,soff+0,none⟩) hsb (fun f=>f)).trans hsc
  rw [head_row hl0]
  simpa using this
 have HZ:Hid (0≤(rows.headD (0,[],[])).1):=by
  obtain ⟨j,_,ej,_⟩:=h.dn.row _ (List.getElem_mem hl0)
  show 0≤_
  rw [head_row hl0,ej];omega
 have i1:(0:Int)<(rows.length:Int):=by omega
 have e0:((rows.length:Int) == 0)=false:=by simp;omega
 have e1:((rows.length:Int) == 1)=false:=by simp;omega
 obtain ⟨W1,hW1⟩:∃ W1,W1=w.alloc zeroCs:=⟨_,rfl⟩
 have HW:Hid (W1=w.alloc zeroCs):=hW1
 rw [← hW1] at CP HS
 clear h hp hsc hl0' hl0 hne ka h0 h1
 generalize rows.length=N at *
 generalize (rows.headD (0,[],[])).1=z at *
 go_enter Tryz.func98,Tryz.ntmps98
 go_upto_region 3 with fail
 rw [← hW1]
 clear hW1
 go_upto_region 7 with (first | (go_at_call 140;refine CP.mono ?_;rintro e w2 ⟨rfl,k2⟩))
 have kd:Same0 W1 w2.drew:=k2.trans' ((Kept.refl _ _).drew)
 have k2' : Same0 (w.alloc zeroCs) w2.drew:=by rw [← HW.out];exact kd
 obtain ⟨⟨r0,r1,r2,r3⟩,f0,f1,f2,f3⟩:=res_get w2.drew k2'
 have d0:=HS.out w2.drew kd
 have ks:=(res_put (w:=w) (x0:=.int .i64 0) (x1:=.int .i64 0) (x2:=.slice none 0 0) (x3:=.slice none 0 0) w2.drew k2').2.2
 have KS:Hid (Same0 w _):=ks
 clear ks CP
 have i2:0<N:=by omega
 have k3' : Same0 (w.alloc zeroCs) w2:=by rw [← HW.out];exact k2
 obtain ⟨⟨s0,s1,s2,s3⟩,t0,t1,t2,t3⟩:=res_get w2 k3'
 have d1:=HS.out w2 k2
 have rs:w2.heap[w.heap.size]? = some (.cells #[.int .i64 0,.int .i64 0,.slice none 0 0,.slice none 0 0] 63 (0,0)):=k3'.at0 (heap_alloc_new w _)
 have q0:=setAt rs 0 (.int .i64 0)
 have q1:=setAt q0 1 (.int .i64 0)
 have q2:=setAt q1 2 (.slice none 0 0)
 have q3:=setAt q2 3 (.slice none 0 0)
 have GG:Hid (_∧_∧_∧_):=⟨cellAt q0 0,cellAt q1 1,cellAt q2 2,cellAt q3 3⟩
 clear rs q0 q1 q2 q3
 go_region
 go_wp2
 obtain ⟨g0,g1,g2,g3⟩:=GG.out
 exact bodyPost_ret (v:=.tuple #[zeroC,.int .i64 z]) (by simp [results,Tryz.results98,go_sem,g0,g1,g2,g3]) rfl ⟨rfl,HZ.out,KS.out⟩
theorem map_fst_len {rows:List Rw}:(rows.map (·.1)).length=rows.length:=List.length_map _
theorem kidX_fst (L:List Sym) (c:Nat) (rows:List Rw):(rows.map (kidX L c)).map (·.1)=rows.map (·.1):=by
 rw [List.map_map];rfl
theorem havR_none {n:Nat} {L:List Sym} {P:List (List Int)} {R:List Rw} {c k:Nat} (h:¬ 0<(havR R c (k:Int)).length) {l:List (Int × Tr n)} (hK:KidsF L n P R c k=.ok l):KidsF L n P R c (k+1)=.ok l:=by
 unfold KidsF at hK ⊢
 rw [kidsN,hK]
 simp only [h,decide_false,Bool.false_eq_true,if_false]
theorem havR_some {n:Nat} {L:List Sym} {P:List (List Int)} {R:List Rw} {c k:Nat} (h:0<(havR R c (k:Int)).length) {l:List (Int × Tr n)} (hK:KidsF L n P R c k=.ok l):KidsF L n P R c (k+1)=(match growF L n (kidP L P c k) ((havR R c (k:Int)).map (kidX L c)) with | .error e=>.error e | .ok t=>.ok (l ++ [((k:Int),t)])):=by
 unfold KidsF at hK ⊢
 rw [kidsN,hK]
 simp only [h,decide_true,if_true]
 cases growF L n (kidP L P c k) ((havR R c (k:Int)).map (kidX L c)) <;> rfl
theorem kid_more {n:Nat} {w2 wr:World} {kb:Nat} {lo:Option Addr} {lc:Nat} {l:List (Int × Tr n)} {us:List Value} {x2:Value} {k:Nat} {t:Tr n} (hN:wr.heap[kb]? = some (.cells #[.int .i64 2,.int .i64 0,x2,.slice lo l.length lc] 63 (0,0))) (hr:wr.ownsRow (kb+1) 161 5 (.slice lo l.length lc) l.length us) (hus:KCells (fun b=>kb<b∧(Value.slice lo l.length lc).ownBlock≠some b) wr n us l) (hw:Same0 w2 wr) (hz2:w2.heap.size≤kb)
  {w4 w5:World} {c0 c1 c2 c3:Value} {g cap:Nat} {w11:World} (k4:Same0 wr w4) (k5:Same0 w4 w5) (hcs:CsB (fun b=>w4.heap.size≤b) w5 n (.agg #[c0,c1,c2,c3]) t) (r11:w11.ownsRow (kb+1) 161 5 (.slice (some ⟨g,0,none⟩) (l.length+1) cap) (l.length+1) (us ++ [.int .i64 (k:Int),c0,c1,c2,c3])) (k11:Kept (fun q=>(Value.slice lo l.length lc).ownBlock=some q) w5 w11) (hat:(Value.slice lo l.length lc).ownBlock=some g∨w5.heap.size≤g) :
  (w11.cell? ⟨kb,3,none⟩=some (.slice lo l.length lc)∧w11.frozen? ⟨kb,3,none⟩=false)∧((w11.setCell ⟨kb,3,none⟩ (.slice (some ⟨g,0,none⟩) (l.length+1) cap)).heap[kb]? = some (.cells #[.int .i64 2,.int .i64 0,x2,.slice (some ⟨g,0,none⟩) (l.length+1) cap] 63 (0,0)))∧((w11.setCell ⟨kb,3,none⟩ (.slice (some ⟨g,0,none⟩) (l.length+1) cap)).ownsRow (kb+1) 161 5 (.slice (some ⟨g,0,none⟩) (l.length+1) cap) (l ++ [((k:Int),t)]).length (us ++ [.int .i64 (k:Int),c0,c1,c2,c3]))∧(KCells (fun b=>kb<b∧(Value.slice (some ⟨g,0,none⟩) (l.length+1) cap).ownBlock≠some b) (w11.setCell ⟨kb,3,none⟩ (.slice (some ⟨g,0,none⟩) (l.length+1) cap)) n (us ++ [.int .i64 (k:Int),c0,c1,c2,c3]) (l ++ [((k:Int),t)]))∧Same0 w2 (w11.setCell ⟨kb,3,none⟩ (.slice (some ⟨g,0,none⟩) (l.length+1) cap)):=by
 have hkr:kb<wr.heap.size:=lt_of_at hN
 have kr5:Same0 wr w5:=k4.trans' k5
 have hr5:=kr5.row hr (fun _ _ f=>f)
 have n5:=kr5.at0 hN
 have nk:¬ (Value.slice lo l.length lc).ownBlock=some kb:=fun e=>by
  obtain ⟨cu,h5⟩:=own_blk hr5 e
  rw [n5] at h5;cases h5
 have n11:=k11.at n5 nk
 have ks:Kept (fun q=>q=kb) w11 (w11.setCell ⟨kb,3,none⟩ (.slice (some ⟨g,0,none⟩) (l.length+1) cap)):=Kept.setCell (p:=⟨kb,3,none⟩) (Kept.refl (fun q=>q=kb) w11) (fun _=>rfl) _
 have z4:=k4.size
 have z5:=k5.size
 have hK1:KCells (fun b=>kb<b∧(Value.slice lo l.length lc).ownBlock≠some b∧b<w5.heap.size) w5 n us l:=by
  have:=hus.mono (B' := fun b=>kb<b∧(Value.slice lo l.length lc).ownBlock≠some b∧b<w5.heap.size) (fun b hb q=>⟨q.1,q.2,by omega⟩)
  exact this.kept kr5 (fun _ _ f=>f)
 have hC1:CsB (fun b=>kb<b∧(Value.slice lo l.length lc).ownBlock≠some b∧b<w5.heap.size) w5 n (.agg #[c0,c1,c2,c3]) t:=CsB.mono (fun b hb q=>by have q' : w4.heap.size≤b:=q;exact ⟨by omega,fun e=>by have:=(hr.lt b e).2;omega,hb⟩) hcs
 refine ⟨⟨cellAt n11 3,frozenAt n11 3⟩,setAt n11 3 _,?_,?_,?_⟩
 ·rw [List.length_append]
  exact ks.row r11 (fun q e f=>by
   obtain ⟨cu,h5⟩:=own_blk r11 e
   subst f
   rw [n11] at h5;cases h5)
 ·have a1:=(hK1.snoc (s:=(k:Int)) hC1).kept k11 (fun b q e=>q.2.1 e)
  have a2:=a1.kept ks (fun b q e=>by have:=q.1;have e' : b=kb:=e;omega)
  exact a2.mono (fun b hb q=>⟨q.1,fun e=>by
   simp only [Value.ownBlock,Option.some.injEq] at e
   subst e
   rcases hat with e | e
   ·exact q.2.1 e
   ·have:=q.2.2;omega⟩)
 ·refine Kept.trans (Kept.trans (hw.trans' kr5) k11 (fun i hi e=>?_)) ks (fun i hi e=>by have e' : i=kb:=e;omega)
  have:=(hr5.lt i e).1
  omega
end Go.Proofs.YtmjgnfkbnofjoaaGreatDoor
