import Derived.Test.YtmjgnfkbnofjoaaGreatDoorSW16
import Derived.Test.YtmjgnfkbnofjoaaGreatDoorSW18
import Derived.Test.YtmjgnfkbnofjoaaGreatDoorSW19
import Derived.Test.YtmjgnfkbnofjoaaGreatDoorSW15
import Derived.Test.YtmjgnfkbnofjoaaGreatDoorSW07
import Derived.Test.YtmjgnfkbnofjoaaGreatDoorSW13
import Derived.Test.YtmjgnfkbnofjoaaGreatDoorSW11
namespace Go.Proofs.YtmjgnfkbnofjoaaGreatDoor
set_option maxRecDepth 100000
set_option linter.unusedVariables false
open Go.RowKit
attribute [local go_sem ↓] Go.wp_at_zero Go.wp_at_succ
theorem ov_yes {L:List Sym} {R l:List Ru} {n:Nat} {x:Ru} (hx:x=l.getD n ([],[])) (h:(R++l.take n).all (fun a=>!meetB L a.1 x.1)=true):ckB L R l 7 n=true:=by subst hx;exact h
theorem ov_no {L:List Sym} {R l:List Ru} {n:Nat} {x:Ru} (hx:x=l.getD n ([],[])) {k:Nat} (hk:k<(R++l.take n).length) (h1:((R++l.take n).take k).all (fun a=>!meetB L a.1 x.1)=true) (h2:meetB L (R++l.take n)[k].1 x.1=true):ckB L R l 7 n=false∧wrongL L R l 7 n=[(77,(n:Int)),(78,(k:Int))]:=by
 have e2:(R++l.take n).findIdx (fun a=>meetB L a.1 x.1)=k:=(List.findIdx_eq hk).2 ⟨h2,fun j hj=>by
  have:=List.all_eq_true.1 h1 ((R++l.take n)[j]'(by omega)) (by
   refine List.mem_iff_getElem.2 ⟨j,by simp at hk ⊢;omega,by simp⟩)
  simpa using this⟩
 subst hx
 refine ⟨?_,?_⟩
 ·show (R++l.take n).all _=false
  rw [List.all_eq_false]
  exact ⟨_,List.getElem_mem hk,fun e=>by rw [h2] at e;cases e⟩
 ·unfold wrongL
  rw [if_neg (by omega),if_pos rfl,e2]
theorem PartA.ans {L:List Sym} {R l:List Ru} {j0 j1:Nat} {ws:List (Int × Int)} (h:PartA L R l j0 j1 ws) (hj:j1≤8) (hne:ws≠[]):Ans L R l ws:=by
 rcases h with ⟨e,_⟩ | ⟨j,n,_,h2,h3,h4,h5,h6⟩
 ·exact absurd e hne
 ·exact .inr ⟨j,n,by omega,h3,h4,h5,h6⟩
theorem PartA.upto {L:List Sym} {R l:List Ru} {j0 j1:Nat} (h:PartA L R l j0 j1 []):Upto L R l j1 0:=by
 rcases h with ⟨_,e⟩ | ⟨j,n,_,_,_,_,_,h6⟩
 ·exact e
 ·exact absurd h6.symm (wrongL_ne _ _ _ _ _)
theorem rclash7 {w:World} {rv:Value} {n:Nat} {L:List Sym} (h:Rl n w rv L) {ao bo:Option Addr} {ac bc:Nat} {a b:List Int} (ha:IntsAt w ao a) (hb:IntsAt w bo b) (hca:checkE L a=0) (hcb:checkE L b=0) :
  Calls Tryz.prog 139 #[rv,.slice ao a.length ac,.slice bo b.length bc] w fun e w' => e=.returned (.bool (claB L a b))∧Same0 w w' :=
 rclash_any hca hcb (solved_any hca hcb (laid_any h ha hb hca hcb true))
def RChk (L:List Sym) (R l:List Ru) (w:World) (e:Ending) (w' : World):Prop:=∃ ws v,e=.returned v∧Ans L R l ws∧WrsAt w' v ws∧Same0 w w'
set_option maxHeartbeats 16000000 in
theorem rchk_any {w:World} {m:Nat} {ro:Option Addr} {rc:Nat} {mo:Option Addr} {mc:Nat} {L:List Sym} {R:List Ru} (h:MR w m ro rc mo mc L R) {lo:Option Addr} {lc:Nat} {l:List Ru} (hl:RsAt w lo l) (hll:l.length≤140737488355328) (hln:lo=none→lc=0) :
  Calls Tryz.prog 95 #[.pointer (some ⟨m,0,none⟩),.slice lo l.length lc] w (RChk L R l w):=by
 have c1:=cellAt h.blk 1
 simp only [List.getElem?_toArray,List.getElem?_cons_succ,List.getElem?_cons_zero] at c1
 have hRl:=h.le
 by_cases hbig:100<R.length+l.length
 ·have hl0:0<l.length:=by omega
  have A:Hid (Ans L R l [(70,0)]):=.inr ⟨0,0,by omega,hl0,Upto.nil _ _ _,by simp [ckB,askB];omega,rfl⟩
  have CO:=fun ww=>rone_any ww 70 0
  clear h hl
  by_cases h1:100<l.length
  ·have g1:(100:Int)<(l.length:Int):=by omega
   go_enter Tryz.func95,Tryz.ntmps95
   go_wp2_with (first | (go_at_call 136;refine (CO _).mono ?_;rintro e w2 ⟨v,rfl,hv,hk2⟩))
   go_ret
   exact ⟨_,_,rfl,A.out,hv,hk2⟩
  ·have g1:¬ (100:Int)<(l.length:Int):=by omega
   have g2:(100:Int)<(R.length:Int)+(l.length:Int):=by omega
   go_enter Tryz.func95,Tryz.ntmps95
   go_wp2_with (first | (go_at_call 136;refine (CO _).mono ?_;rintro e w2 ⟨v,rfl,hv,hk2⟩))
   go_ret
   exact ⟨_,_,rfl,A.out,hv,hk2⟩
 ·have g1:¬ (100:Int)<(l.length:Int):=by omega
  have g2:¬ (100:Int)<(R.length:Int)+(l.length:Int):=by omega
  have up1:Upto L R l 1 0:=⟨fun i hi mm hm=>by
   obtain rfl:i=0:=by omega
   simp [ckB,askB];omega,fun mm hm=>absurd hm (by omega)⟩
  have CT:=rterms_any (lc:=lc) h hl (by omega) up1
  go_enter Tryz.func95,Tryz.ntmps95
  go_upto_region 4 with (first | (go_at_call 137;refine CT.mono ?_;rintro e w2 ⟨ws2,v2,rfl,hP2,hv2,k2⟩;obtain ⟨vo2,vc2,rfl,hv2'⟩:=id hv2))
  by_cases hw2:ws2=[]
  ·subst hw2
   have up3:=hP2.upto
   have hm2:=h.same k2
   have hl2:=hl.same k2
   have CS:=rshapes_any (lc:=lc) hm2 hl2 (by omega) up3
   clear CT c1 hv2 hv2' hP2
   go_upto_region 7 with (first | (go_at_call 138;refine CS.mono ?_;rintro e w3 ⟨ws3,v3,rfl,hP3,hv3,k3⟩;obtain ⟨vo3,vc3,rfl,hv3'⟩:=id hv3))
   have K3:=k2.trans' k3
   by_cases hw3:ws3=[]
   ·subst hw3
    have up7:Hid (Upto L R l 7 0):=hP3.upto
    have hok:∀ i (hi:i<l.length),checkE L l[i].1=0∧checkE L l[i].2=0:=fun i hi=>up3.ok1 hi
    have hm3:=h.same K3
    have hl3:=hl.same K3
    have k0:Same0 w3 (w3.alloc (.cells #[] 90)):=(Kept.refl _ _).alloc _
    have r0:(w3.alloc (.cells #[] 90)).ownsRow w3.heap.size 90 2 (.slice (some ⟨w3.heap.size,0,none⟩) 0 0) 0 []:=⟨rfl,.inr ⟨w3.heap.size,0, #[],rfl,Nat.le_refl _,heap_alloc_new w3 _,Nat.le_refl _,by unfold maxLen;omega,rfl,rfl⟩⟩
    have N1:Hid (mo=none→mc=0∧R=[]):=hm3.rs.none hm3.nil
    have N2:Hid (lo=none→lc=0∧l=[]):=hl3.none hln
    obtain ⟨us,hu,US⟩:=hm3.rs.src
    obtain ⟨ms,hms,MS⟩:=hl3.src
    have z0:=k0.size
    have d1:=cellAt (hm3.same k0).blk 1
    simp only [List.getElem?_toArray,List.getElem?_cons_succ,List.getElem?_cons_zero] at d1
    clear CS hv3 hv3' hP3 hm2 hl2 k2 k3 up3
    go_upto_region 10 with (first | (at_builtin;refine wpList_rules rfl (.tmp 39) (.tmp 43) rfl w3.heap.size 0 [] _ rfl r0 mo mc R us rfl hu (US.out _ k0) N1.out z0 (by omega) ?_;intro v4 w4 hr4' k4;have s4:=own_kept k0 r0 (Nat.le_refl _) k4;have hr4:w4.ownsRow w3.heap.size 90 2 v4 R.length us:=(by simpa using hr4');obtain ⟨vo4,vc4,rfl⟩:=row_shape hr4;have z4:=s4.size) | (at_builtin;refine wpList_rules rfl (.tmp 44) (.tmp 45) rfl w3.heap.size _ _ _ rfl hr4 lo lc l ms rfl hms (MS.out _ s4) N2.out z4 (by omega) ?_;intro v5 w5 hr5 k5;have s5:=own_kept s4 hr4 (Nat.le_refl _) k5;obtain ⟨vo5,vc5,rfl⟩:=row_shape hr5))
    obtain ⟨o5,c5,e5,r5,hN3,hN4⟩:=row_rules hr5 (by simpa using (hu.append hms).same s5)
    simp only [Value.slice.injEq] at e5
    obtain ⟨rfl,hN5,rfl⟩:=e5
    clear hN3 hN4 hN5
    have K5:=K3.trans' s5
    have hm5:=h.same K5
    have hl5:=hl.same K5
    clear r0 N1 N2 hu US hms MS z0 d1 hr4' hr4 hr5 k4 k5 s4 s5 z4 hm3 hl3 K3 k0
    have hcat:∀ n (hn:n<l.length) k (hk:k<R.length+n),∃ h1:k<(R++l).length,∃ h2:k<(R++l.take n).length,(R++l)[k]=(R++l.take n)[k]:=fun n hn k hk=>by
     refine ⟨by simp;omega,by simp;omega,?_⟩
     by_cases hkr:k<R.length
     ·rw [List.getElem_append_left hkr,List.getElem_append_left hkr]
     ·rw [List.getElem_append_right (by omega),List.getElem_append_right (by omega)]
      simp
    have hallok:∀ k (hk:k<(R++l).length),checkE L (R++l)[k].1=0:=fun k hk=>by
     by_cases hkr:k<R.length
     ·rw [List.getElem_append_left hkr];exact h.ok _ (List.getElem_mem hkr)
     ·rw [List.getElem_append_right (by omega)];exact (hok _ (by simp at hk;omega)).1
    have HCAT:Hid (∀ n (hn:n<l.length) k (hk:k<R.length+n),∃ h1:k<(R++l).length,∃ h2:k<(R++l.take n).length,(R++l)[k]=(R++l.take n)[k]):=hcat
    have HALL:Hid (∀ k (hk:k<(R++l).length),checkE L (R++l)[k].1=0):=hallok
    have HOK:Hid (∀ i (hi:i<l.length),checkE L l[i].1=0∧checkE L l[i].2=0):=hok
    clear hcat hallok hok
    have M0:Same0 w5 w5:=Kept.refl _ _
    have FK:Hid (Same0 w w5):=K5
    clear h hl K5
    go_wp2
    go_loopw [7] (fun i wr=>∃ n:Nat,n≤l.length∧i=.int .i64 (n:Int)∧Hid (Upto L R l 7 n)∧Same0 w5 wr) (fun i _=>l.length-(intOf i).toNat)
    case atStart=>exact ⟨0,Nat.zero_le _,rfl,up7,M0⟩
    case round=>
     clear M0 up7
     obtain ⟨n,hnl,rfl,hu,hs⟩:=hrel
     by_cases hlt:n<l.length
     ·have i2:(n:Int)<(l.length:Int):=by omega
      go_wp2
      go_loopw [8] (fun i wr=>∃ k:Nat,k≤R.length+n∧i=.int .i64 (k:Int)∧Hid (((R++l.take n).take k).all (fun a=>!meetB L a.1 (l.getD n ([],[])).1)=true)∧Same0 w5 wr) (fun i _=>R.length+n-(intOf i).toNat)
      case atStart=>exact ⟨0,Nat.zero_le _,rfl,by show _=_;simp,hs⟩
      case round=>
       clear hs
       obtain ⟨k,hkl,rfl,ha,hs⟩:=hrel
       have hm6:=hm5.same hs
       have c1:=cellAt hm6.blk 1
       simp only [List.getElem?_toArray,List.getElem?_cons_succ,List.getElem?_cons_zero] at c1
       by_cases hkk:k<R.length+n
       ·obtain ⟨hk1,hk2,ek⟩:=HCAT.out n hlt k hkk
        have hao:=HALL.out k hk1
        obtain ⟨vb,voff,rfl,hvb,eo,ec,fo,fc,q0,_,B1,_⟩:=(r5.same hs).get hk1
        obtain ⟨lb,off,rfl,hlb,ao,ac,bo,bc,p0,_,A1,_⟩:=(hl5.same hs).get hlt
        have hxo:=(HOK.out n hlt).1
        have hxd:l.getD n ([],[])=l[n]:=by simp [List.getD,hlt]
        have hmeet:meetB L (R++l.take n)[k].1 (l.getD n ([],[])).1 = !claB L l[n].1 (R++l)[k].1:=by
         rw [hxd,← ek];exact meetB_eq hao hxo
        have i1:(0:Int)≤(n:Int):=by omega
        have j1:(0:Int)≤(k:Int):=by omega
        have j2:(k:Int)<(R.length:Int)+(n:Int):=by omega
        have j3:(k:Int)<(R.length:Int)+(l.length:Int):=by omega
        have j4:(k:Int)<((R++l).length:Int):=by omega
        have HS:Hid (∀ ww,Same0 wr ww→ww.cell? ⟨m,0,none⟩=some (.slice ro L.length rc)∧ww.cell? ⟨lb,off+n * 2,none⟩=some (.slice ao l[n].1.length ac)∧ww.cell? ⟨vb,voff+k * 2,none⟩=some (.slice eo (R++l)[k].1.length ec)):=fun ww hk=>⟨cellAt (hm6.same hk).blk 0,(hk.cell (p:=⟨lb,off+n * 2,none⟩) hlb (fun f=>f)).trans p0,(hk.cell (p:=⟨vb,voff+k * 2,none⟩) hvb (fun f=>f)).trans q0⟩
        have C:Hid (∀ ww,Same0 wr ww→Calls Tryz.prog 139 #[.slice ro L.length rc,.slice ao l[n].1.length ac,.slice eo (R++l)[k].1.length ec] ww fun e w' => e=.returned (.bool (claB L l[n].1 (R++l)[k].1))∧Same0 wr w'):=fun ww hk=>(rclash7 (hm6.same hk).rl (A1.same hk).at' (B1.same hk).at' hxo hao).mono (fun e w' ⟨q1,q2⟩=>⟨q1,hk.trans' q2⟩)
        have CC0:=HS.out wr (Kept.refl _ _)
        have W1:Same0 wr wr.drew:=Kept.drew (Kept.refl _ _)
        have P0:Hid (claB L l[n].1 (R++l)[k].1=true→((R++l.take n).take (k+1)).all (fun a=>!meetB L a.1 (l.getD n ([],[])).1)=true):=fun q=>by
         have:=ha.out
         rw [List.take_add_one,List.getElem?_eq_getElem hk2,List.all_append,this]
         simp only [Option.toList_some,List.all_cons,List.all_nil,hmeet,q]
         rfl
        have P1:Hid (claB L l[n].1 (R++l)[k].1=false→Ans L R l [(77,(n:Int)),(78,(k:Int))]):=fun q=>by
         obtain ⟨o1,o2⟩:=ov_no rfl hk2 ha.out (by rw [hmeet,q];rfl)
         exact .inr ⟨7,n,by omega,hlt,hu.out,o1,o2.symm⟩
        generalize hLn:l[n].1=xl at *
        generalize hRk:(R++l)[k].1=yl at *
        cases hq:claB L xl yl with
        | true=>
         have P:=P0.out hq
         rw [hq] at C
         have P' : Hid (((R++l.take n).take (k+1)).all (fun a=>!meetB L a.1 (l.getD n ([],[])).1)=true):=P
         clear P P0 P1 hq ha hu hmeet ek hLn hRk hm6 A1 B1 p0 q0 hxd hao hxo
         go_wp2
         go_region_held3 (fun w' => w'.cell? ⟨m,0,none⟩=some (.slice ro L.length rc)∧w'.cell? ⟨lb,off+n * 2,none⟩=some (.slice ao xl.length ac)∧w'.cell? ⟨vb,voff+k * 2,none⟩=some (.slice eo yl.length ec)) (first | exact cc1 | exact CC0) (first | (go_at_call 139;refine (C.out _ W1).mono ?_;rintro e w7 ⟨rfl,hw7⟩;have cc1:=HS.out _ hw7))
         all_goals
          go_wp2
          go_roundw
          case rel=>first | exact ⟨k+1,by omega,by go_num,P', hs.trans' hw7⟩ | ((repeat apply Exists.intro);exact ⟨⟨k+1,by omega,by go_num,P', hs.trans' hw7⟩,rfl⟩)
          case measure=>simp [intOf];omega
        | false=>
         have P:=P1.out hq
         rw [hq] at C
         have P' : Hid (Ans L R l [(77,(n:Int)),(78,(k:Int))]):=P
         clear P P0 P1 hq ha hu hmeet ek hLn hRk hm6 A1 B1 p0 q0 hxd hao hxo
         go_wp2
         go_region_held3 (fun w' => w'.cell? ⟨m,0,none⟩=some (.slice ro L.length rc)∧w'.cell? ⟨lb,off+n * 2,none⟩=some (.slice ao xl.length ac)∧w'.cell? ⟨vb,voff+k * 2,none⟩=some (.slice eo yl.length ec)) (first | exact cc1 | exact CC0) (first | (go_at_call 139;refine (C.out _ W1).mono ?_;rintro e w7 ⟨rfl,hw7⟩;have cc1:=HS.out _ hw7))
         all_goals
          go_wp2
          go_ret
          exact ⟨_,_,rfl,P'.out,wrs_two w7 _ _ _ _ rfl,FK.out.trans' (hs.trans' (Kept.alloc hw7 _))⟩
       ·have hA:Hid (Upto L R l 7 (n+1)):=hu.out.step (ov_yes rfl (by
         have:=ha.out
         rwa [List.take_of_length_le (by simp;omega)] at this))
        have hkk' : ¬ (k:Int)<(R.length:Int)+(n:Int):=by omega
        clear hu ha
        go_wp2
        go_roundw
        case rel=>first | exact ⟨n+1,by omega,by go_num,hA,hs⟩ | ((repeat apply Exists.intro);exact ⟨⟨n+1,by omega,by go_num,hA,hs⟩,rfl⟩)
        case measure=>simp [intOf];omega
     ·have A:Hid (Ans L R l []):=.inl ⟨rfl,hu.out.next (by omega)⟩
      have hlt' : ¬ (n:Int)<(l.length:Int):=by omega
      clear hu hlt
      go_wp2
      go_ret
      exact ⟨_,_,rfl,A.out,wrs_nil _,FK.out.trans' hs⟩
   ·have A:Hid (Ans L R l ws3):=hP3.ans (by omega) hw3
    have hp:(0:Int)<(ws3.length:Int):=by
     have:0<ws3.length:=List.length_pos_iff.2 hw3
     omega
    clear CS hv3' hP3
    go_wp2
    go_ret
    exact ⟨_,_,rfl,A.out,hv3,K3⟩
  ·have A:Hid (Ans L R l ws2):=hP2.ans (by omega) hw2
   have hp:(0:Int)<(ws2.length:Int):=by
    have:0<ws2.length:=List.length_pos_iff.2 hw2
    omega
   clear CT hv2' hP2
   go_wp2
   go_ret
   exact ⟨_,_,rfl,A.out,hv2,k2⟩
structure MO (w:World) (m:Nat) (ro:Option Addr) (rc:Nat) (L:List Sym) (R:List Ru) (lv:Value) (vs:List Value):Prop where
 blk:w.heap[m]? = some (.cells #[.slice ro L.length rc,lv] 131 (0,0))
 rl:Rl w.heap.size w (.slice ro L.length rc) L
 row:w.ownsRow 0 90 2 lv R.length vs
 own:OCells w vs R
 le:R.length≤100
 ok:∀ x∈R,checkE L x.1=0∧checkE L x.2=0
theorem MO.same {w w' : World} {m:Nat} {ro:Option Addr} {rc:Nat} {L:List Sym} {R:List Ru} {lv:Value} {vs:List Value} (h:MO w m ro rc L R lv vs) (hk:Same0 w w'):MO w' m ro rc L R lv vs:=
 ⟨hk.at0 h.blk,rl_up (h.rl.same hk) hk.size,hk.row h.row (fun _ _ f=>f),h.own.same hk,h.le,h.ok⟩
theorem MO.read {w:World} {m:Nat} {ro:Option Addr} {rc:Nat} {L:List Sym} {R:List Ru} {lv:Value} {vs:List Value} (h:MO w m ro rc L R lv vs):∃ mo mc,lv=.slice mo R.length mc∧MR w m ro rc mo mc L R:=by
 obtain ⟨ao,cap,rfl,h1,h2,_⟩:=row_rules h.row (h.own.rcells (fun x hx=>⟨(ok_len (h.ok x hx)).1.2,(ok_len (h.ok x hx)).2.2⟩))
 exact ⟨ao,cap,rfl,h.blk,h.rl,h1,h2,h.le,fun x hx=>(h.ok x hx).1⟩
theorem own_typed {base n size:Nat} {w:World} {T:TypeId} {v:Value} {vs:List Value} (h:w.ownsRow base T size v n vs) {q:Nat} (hq:v.ownBlock=some q):∃ cur,w.heap[q]? = some (.cells cur T (0,0)):=by
 rcases h.2 with ⟨rfl,_⟩ | ⟨g,cap,cur,rfl,_,hg,_⟩
 ·simp [Value.ownBlock] at hq
 ·simp only [Value.ownBlock,Option.some.injEq] at hq
  subst hq
  exact ⟨cur,hg⟩
theorem step_rule8 {w0 W:World} {ops:Array Oper} {o:Oper} {a:Act} {K:Act→World→Prop} {Q:Exit→Act→World→Prop} {E:Prop} (hgd:o.guard=none) (s x:Operand)
  (ho:o.op=.call { callee:=.builtin .append,args:=#[s,x],argTypes:=#[29,29] })
  (base k:Nat) (vs:List Value) (v:Value) (hs:a.eval s=v) (hW:Same0 w0 W) (hr:w0.ownsRow base 90 2 v k vs) (A B:Value) (q:Nat) (hx:a.eval x=.slice (some ⟨q,0,none⟩) 1 1) (hq:W.heap[q]? = some (.cells #[A,B] 90 (0,0))) (hA:A.oneCell' = true) (hB:B.oneCell' = true) (hb:base≤w0.heap.size) (hsz:(k+1) * 48≤140737488355328)
  (h:∀ g cap w', w'.ownsRow base 90 2 (.slice (some ⟨g,0,none⟩) (k+1) cap) (k+1) (vs ++ [A,B])→Kept (fun q=>v.ownBlock=some q) w0 w' → (v.ownBlock=some g∨w0.heap.size≤g)→K (a.put o.dst (.slice (some ⟨g,0,none⟩) (k+1) cap)) w') :
  if Region.wanted o (yielded ops a.tmps)=true then Oper.wp Tryz.prog o a W K Q else E:=by
 obtain ⟨i,hi,hz0,hz1,hz2⟩:=info_parts info_rule
 refine step_append_lies _ hgd s x 29 ho base 90 i _ 2 48 Tryz.underlying29 hi hz0 hz1 hz2 rfl (by decide) v k vs hs (hW.row hr (fun _ _ f=>f)) ⟨q,0,none⟩ 1 1 [A,B] hx rfl (World.news_of_block (cs:=#[A,B]) (t:=90) (fr:=(0,0)) hq) (by intro u hu;simp at hu;rcases hu with rfl | rfl <;> assumption) (by omega) (by unfold maxLen;omega) hsz (Nat.le_trans hb hW.size) W.heap.size rfl ?_
 intro g cap w' hown hgrow hat hlt
 exact h g cap w' hown (Kept.grown (Kept.mono hW (fun _ _ f=>f.elim)) hgrow (fun _ e _=>e)) (hat.imp id (fun e=>by have:=hW.size;omega))
theorem MO.more {w w2 w9:World} {m:Nat} {ro:Option Addr} {rc:Nat} {L:List Sym} {R:List Ru} {lv:Value} {vs:List Value} {x:Ru} {g c g' c' gg cap:Nat} (h:MO w m ro rc L R lv vs) (hk:Same0 w w2) (t1:TmAt w2 g c x.1) (t2:TmAt w2 g' c' x.2) (hx:checkE L x.1=0∧checkE L x.2=0) (hlen:R.length+1≤100)
  (r9:w9.ownsRow 0 90 2 (.slice (some ⟨gg,0,none⟩) (R.length+1) cap) (R.length+1) (vs ++ [.slice (some ⟨g,0,none⟩) x.1.length c,.slice (some ⟨g', 0,none⟩) x.2.length c'])) (k9:Kept (fun q=>lv.ownBlock=some q) w2 w9) :
  (w9.cell? ⟨m,1,none⟩=some lv∧w9.frozen? ⟨m,1,none⟩=false)∧MO (w9.setCell ⟨m,1,none⟩ (.slice (some ⟨gg,0,none⟩) (R.length+1) cap)) m ro rc L (R ++ [x]) (.slice (some ⟨gg,0,none⟩) (R.length+1) cap) (vs ++ [.slice (some ⟨g,0,none⟩) x.1.length c,.slice (some ⟨g', 0,none⟩) x.2.length c']):=by
 have h2:=h.same hk
 have nm:¬ lv.ownBlock=some m:=fun e=>by obtain ⟨cu,a⟩:=own_typed h2.row e;rw [h2.blk] at a;cases a
 have b9:=k9.at h2.blk nm
 have ks:Kept (fun q=>q=m) w9 (w9.setCell ⟨m,1,none⟩ (.slice (some ⟨gg,0,none⟩) (R.length+1) cap)):=Kept.setCell (p:=⟨m,1,none⟩) (Kept.refl (fun q=>q=m) w9) (fun _=>rfl) _
 have ty1:∀ q,lv.ownBlock=some q→∀ cur,w2.heap[q]? ≠ some (.cells cur 3 (0,0)):=fun q e cur a=>by obtain ⟨cu,b⟩:=own_typed h2.row e;rw [a] at b;cases b
 have ty2:∀ q,q=m→∀ cur,w9.heap[q]? ≠ some (.cells cur 3 (0,0)):=fun q e cur a=>by subst e;rw [b9] at a;cases a
 refine ⟨⟨cellAt b9 1,frozenAt b9 1⟩,setAt b9 1 _,?_,?_,?_,by simp;omega,fun y hy=>?_⟩
 ·obtain ⟨a1,a2,a3⟩:=h2.rl
  have ns:∀ q,(Value.slice ro L.length rc).ownBlock=some q→¬ lv.ownBlock=some q:=fun q e f=>by
   obtain ⟨cu,b⟩:=own_typed a1 e
   obtain ⟨cv,d⟩:=own_typed h2.row f
   rw [b] at d;cases d
  have ns2:∀ q,(Value.slice ro L.length rc).ownBlock=some q→¬ q=m:=fun q e f=>by
   obtain ⟨cu,b⟩:=own_typed a1 e
   subst f
   have hm:=h2.blk
   rw [b] at hm;cases hm
  refine ⟨ks.row (k9.row a1 ns) ns2,fun q e=>?_,a3⟩
  have:=a2 q e
  have z1:=k9.size
  have z2:=ks.size
  omega
 ·rw [List.length_append]
  exact ks.row r9 (fun q e f=>by obtain ⟨cu,a⟩:=own_typed r9 e;subst f;rw [b9] at a;cases a)
 ·exact ((h2.own.append (OCells.one t1 t2)).kept k9 ty1).kept ks ty2
 ·rcases List.mem_append.1 hy with hy | hy
  ·exact h.ok y hy
  ·simp at hy;subst hy;exact hx
end Go.Proofs.YtmjgnfkbnofjoaaGreatDoor
namespace Go.Proofs.YtmjgnfkbnofjoaaGreatDoor
set_option maxRecDepth 100000
set_option linter.unusedVariables false
open Go.RowKit
theorem info_ins:(Tryz.prog.info? 102).map (fun i=>(i.zero,i.size,i.bytes))=some (some (.agg #[.int .i64 0,.int .i64 0,.int .i64 0]),3,24):=by kernel_rfl
theorem info_path:(Tryz.prog.info? 51).map (fun i=>(i.zero,i.size,i.bytes))=some (some (.slice none 0 0),1,24):=by kernel_rfl
def insV (I:List I3):List Value:=(flat3 I).map (fun x=>.int .i64 x)
theorem insV_append (a b:List I3):insV (a++b)=insV a++insV b:=by simp [insV,flat3_append]
theorem insV_one (x:I3):insV [x]=[.int .i64 x.1,.int .i64 x.2.1,.int .i64 x.2.2]:=rfl
theorem insV_setB (I:List I3) (c:Nat) (b:Int):insV (setB I c b)=(insV I).set (c * 3+2) (.int .i64 b):=by
 simp [insV,flat3_setB,List.map_set]
def PathsC (B:Nat→Prop) (w:World) (vs:List Value) (P:List (List Int)):Prop:=
 vs.length=P.length∧∀ i (h:i<P.length),∃ ao ac,vs[i]? = some (.slice ao P[i].length ac)∧ArgT w ao P[i] ac∧∀ a,ao=some a→¬ B a.block
theorem PathsC.kept {B S:Nat→Prop} {w w' : World} {vs:List Value} {P:List (List Int)} (h:PathsC B w vs P) (hk:Kept S w w') (hS:∀ k,S k→∀ cur,w.heap[k]? ≠ some (.cells cur 3 (0,0))):PathsC B w' vs P:=
 ⟨h.1,fun i hi=>by
  obtain ⟨ao,ac,h1,h2,h3⟩:=h.2 i hi
  exact ⟨ao,ac,h1,h2.kept hk hS,h3⟩⟩
theorem PathsC.mono {B B' : Nat→Prop} {w:World} {vs:List Value} {P:List (List Int)} (h:PathsC B w vs P) (hB:∀ b,b<w.heap.size→B' b→B b):PathsC B' w vs P:=
 ⟨h.1,fun i hi=>by
  obtain ⟨ao,ac,h1,h2,h3⟩:=h.2 i hi
  refine ⟨ao,ac,h1,h2,fun a e q=>?_⟩
  obtain ⟨cur,hc⟩:=h2.2 a e
  exact h3 a e (hB _ (lt_of_at hc) q)⟩
theorem PathsC.nil (B:Nat→Prop) (w:World):PathsC B w [] []:=⟨rfl,fun i h=>absurd h (by simp)⟩
theorem PathsC.snoc {B:Nat→Prop} {w:World} {vs:List Value} {P:List (List Int)} (h:PathsC B w vs P) {p:List Int} {ao:Option Addr} {ac:Nat} (h2:ArgT w ao p ac) (h3:∀ a,ao=some a→¬ B a.block):PathsC B w (vs ++ [.slice ao p.length ac]) (P ++ [p]):=by
 refine ⟨by simp [h.1],fun i hi=>?_⟩
 by_cases hl:i<P.length
 ·rw [List.getElem_append_left hl,List.getElem?_append_left (by rw [h.1];omega)]
  exact h.2 i hl
 ·obtain rfl:i=P.length:=by simp at hi;omega
  refine ⟨ao,ac,?_,by simpa using h2,h3⟩
  rw [List.getElem?_append_right (by rw [h.1];omega),h.1];simp
structure Lay (B:Nat→Prop) (w:World) (vi vp:Value) (s:St9):Prop where
 ri:w.ownsRow 0 102 3 vi s.1.length (insV s.1)
 ib:∀ k,vi.ownBlock=some k→¬ B k
 rp:∃ vs,w.ownsRow 0 51 1 vp s.2.length vs∧PathsC B w vs s.2
 pb:∀ k,vp.ownBlock=some k→¬ B k
theorem Lay.nil (B:Nat→Prop) (w:World):Lay B w (.slice none 0 0) (.slice none 0 0) ([],[]):=
 ⟨World.ownsRow_nil _ _ _ _,(fun k e=>by simp [Value.ownBlock] at e),⟨[],World.ownsRow_nil _ _ _ _,PathsC.nil _ _⟩,fun k e=>by simp [Value.ownBlock] at e⟩
theorem typed_lt {w:World} {base n size:Nat} {T:TypeId} {v:Value} {vs:List Value} (h:w.ownsRow base T size v n vs) {q:Nat} (hq:v.ownBlock=some q):q<w.heap.size:=by
 obtain ⟨cur,hc⟩:=own_typed h hq
 exact lt_of_at hc
theorem Lay.mono {B B' : Nat→Prop} {w:World} {vi vp:Value} {s:St9} (h:Lay B w vi vp s) (hB:∀ b,b<w.heap.size→B' b→B b):Lay B' w vi vp s:=by
 obtain ⟨h1,h2,⟨vs,h3,h4⟩,h5⟩:=h
 exact ⟨h1,fun k e q=>h2 k e (hB k (typed_lt h1 e) q),⟨vs,h3,h4.mono hB⟩,fun k e q=>h5 k e (hB k (typed_lt h3 e) q)⟩
theorem Lay.kept {B S:Nat→Prop} {w w' : World} {vi vp:Value} {s:St9} (h:Lay B w vi vp s) (hk:Kept S w w') (hS:∀ k,S k→(∀ cur,w.heap[k]? ≠ some (.cells cur 3 (0,0)))∧(∀ cur,w.heap[k]? ≠ some (.cells cur 102 (0,0)))∧(∀ cur,w.heap[k]? ≠ some (.cells cur 51 (0,0)))):Lay B w' vi vp s:=by
 obtain ⟨h1,h2,⟨vs,h3,h4⟩,h5⟩:=h
 refine ⟨hk.row h1 (fun k e q=>?_),h2,⟨vs,hk.row h3 (fun k e q=>?_),h4.kept hk (fun k q=>(hS k q).1)⟩,h5⟩
 ·obtain ⟨cur,hc⟩:=own_typed h1 e
  exact (hS k q).2.1 cur hc
 ·obtain ⟨cur,hc⟩:=own_typed h3 e
  exact (hS k q).2.2 cur hc
theorem Lay.same {B:Nat→Prop} {w w' : World} {vi vp:Value} {s:St9} (h:Lay B w vi vp s) (hk:Same0 w w'):Lay B w' vi vp s:=h.kept hk (fun _ f=>f.elim)
theorem Lay.ins {B:Nat→Prop} {w w' : World} {vi vp vi' : Value} {s:St9} (h:Lay B w vi vp s) (x:I3) (hr:w'.ownsRow 0 102 3 vi' (s.1.length+1) (insV s.1 ++ [.int .i64 x.1,.int .i64 x.2.1,.int .i64 x.2.2])) (hk:Kept (fun k=>vi.ownBlock=some k) w w') (hn:∀ k,vi'.ownBlock=some k→vi.ownBlock=some k∨w.heap.size≤k) (hB:∀ b,B b→b<w.heap.size):Lay B w' vi' vp (s.1 ++ [x],s.2):=by
 obtain ⟨h1,h2,⟨vs,h3,h4⟩,h5⟩:=h
 refine ⟨?_,fun k e q=>?_,⟨vs,hk.row h3 (fun k e q=>?_),h4.kept hk (fun k q cur hc=>?_)⟩,h5⟩
 ·rw [insV_append,insV_one]
  simpa using hr
 ·rcases hn k e with q2 | q2
  ·exact h2 k q2 q
  ·have:=hB k q;omega
 ·obtain ⟨cur,hc⟩:=own_typed h3 e
  obtain ⟨cur', hc'⟩:=own_typed h1 q
  rw [hc] at hc'; cases hc'
 ·obtain ⟨cur', hc'⟩:=own_typed h1 q
  rw [hc] at hc'; cases hc'
theorem Lay.path {B:Nat→Prop} {w w' : World} {vi vp vp' : Value} {s:St9} (h:Lay B w vi vp s) {vs:List Value} (hp:w.ownsRow 0 51 1 vp s.2.length vs∧PathsC B w vs s.2) {p:List Int} {ao:Option Addr} {ac:Nat} (ha:ArgT w ao p ac) (hab:∀ a,ao=some a→¬ B a.block) (hr:w'.ownsRow 0 51 1 vp' (s.2.length+1) (vs ++ [.slice ao p.length ac])) (hk:Kept (fun k=>vp.ownBlock=some k) w w') (hn:∀ k,vp'.ownBlock=some k→vp.ownBlock=some k∨w.heap.size≤k) (hB:∀ b,B b→b<w.heap.size):Lay B w' vi vp' (s.1,s.2 ++ [p]):=by
 obtain ⟨h1,h2,_,h5⟩:=h
 obtain ⟨h3,h4⟩:=hp
 refine ⟨hk.row h1 (fun k e q=>?_),h2,⟨vs ++ [.slice ao p.length ac],by simpa using hr,(h4.snoc ha hab).kept hk (fun k q cur hc=>?_)⟩,fun k e q=>?_⟩
 ·obtain ⟨cur,hc⟩:=own_typed h1 e
  obtain ⟨cur', hc'⟩:=own_typed h3 q
  rw [hc] at hc'; cases hc'
 ·obtain ⟨cur', hc'⟩:=own_typed h3 q
  rw [hc] at hc'; cases hc'
 ·rcases hn k e with q2 | q2
  ·exact h5 k q2 q
  ·have:=hB k q;omega
theorem put_row {w:World} {base g cap n size:Nat} {e:TypeId} {ys:List Value} (h:w.ownsRow base e size (.slice (some ⟨g,0,none⟩) n cap) n ys) {k:Nat} (hk:k<n * size) (u:Value):(∃ old,w.cell? ⟨g,k,none⟩=some old)∧w.frozen? ⟨g,k,none⟩=false∧(w.setCell ⟨g,k,none⟩ u).ownsRow base e size (.slice (some ⟨g,0,none⟩) n cap) n (ys.set k u):=by
 rcases h.2 with ⟨e0,_⟩ | ⟨g', cap', cur,e0,hb,hg,hle,hmx,hsz,htk⟩
 ·cases e0
 ·simp only [Value.slice.injEq,Option.some.injEq,Addr.mk.injEq] at e0
  obtain ⟨⟨rfl,_⟩,_,rfl⟩:=e0
  have hkc:k<cur.size:=by rw [hsz];exact Nat.lt_of_lt_of_le hk (Nat.mul_le_mul_right _ hle)
  refine ⟨⟨cur[k],by rw [cellAt hg];simp [hkc]⟩,frozenAt hg k,by simp [h.1],.inr ⟨g,cap,cur.setIfInBounds k u,rfl,hb,setAt hg k u,hle,hmx,by simp [hsz],?_⟩⟩
  rw [Array.toList_setIfInBounds,List.take_set,htk]
theorem Lay.setB {B:Nat→Prop} {w:World} {g n cap:Nat} {vp:Value} {s:St9} (h:Lay B w (.slice (some ⟨g,0,none⟩) n cap) vp s) (hn:n=s.1.length) {c:Nat} (hc:c<n) (b:Int):Lay B (w.setCell ⟨g,c * 3+2,none⟩ (.int .i64 b)) (.slice (some ⟨g,0,none⟩) n cap) vp (Go.Proofs.YtmjgnfkbnofjoaaGreatDoor.setB s.1 c b,s.2)∧(∃ old,w.cell? ⟨g,c * 3+2,none⟩=some old)∧w.frozen? ⟨g,c * 3+2,none⟩=false∧Kept (fun k=>k=g) w (w.setCell ⟨g,c * 3+2,none⟩ (.int .i64 b)):=by
 subst hn
 obtain ⟨h1,h2,⟨vs,h3,h4⟩,h5⟩:=h
 obtain ⟨a1,a2,a3⟩:=put_row h1 (k:=c * 3+2) (by omega) (.int .i64 b)
 obtain ⟨cur,hcur⟩:=own_typed h1 rfl
 have hk:Kept (fun k=>k=g) w (w.setCell ⟨g,c * 3+2,none⟩ (.int .i64 b)):=kept_at _ _ _ _
 refine ⟨⟨?_,h2,⟨vs,hk.row h3 (fun k e q=>?_),h4.kept hk (fun k q cur' hc' => ?_)⟩,h5⟩,a1,a2,hk⟩
 ·rw [insV_setB,setB_length];exact a3
 ·subst q
  obtain ⟨cur', hc'⟩:=own_typed h3 e
  rw [hcur] at hc'; cases hc'
 ·subst q
  rw [hcur] at hc'; cases hc'
end Go.Proofs.YtmjgnfkbnofjoaaGreatDoor
namespace Go.Proofs.YtmjgnfkbnofjoaaGreatDoor
set_option maxRecDepth 100000
set_option linter.unusedVariables false
open Go.RowKit
attribute [local go_sem ↓] Go.wp_at_zero Go.wp_at_succ
def CtAt (B:Nat→Prop) (w:World) (tb:Nat) (s:St9):Prop:=
 ∃ vi vp,w.heap[tb]? = some (.cells #[vi,vp] 174 (0,0))∧¬ B tb∧Lay B w vi vp s
theorem CtAt.mono {B B' : Nat→Prop} {w:World} {tb:Nat} {s:St9} (h:CtAt B w tb s) (hB:∀ b,b<w.heap.size→B' b→B b):CtAt B' w tb s:=by
 obtain ⟨vi,vp,h1,h2,h3⟩:=h
 exact ⟨vi,vp,h1,fun q=>h2 (hB _ (lt_of_at h1) q),h3.mono hB⟩
theorem CtAt.same {B:Nat→Prop} {w w' : World} {tb:Nat} {s:St9} (h:CtAt B w tb s) (hk:Same0 w w'):CtAt B w' tb s:=by
 obtain ⟨vi,vp,h1,h2,h3⟩:=h
 exact ⟨vi,vp,hk.at0 h1,h2,h3.same hk⟩
theorem tab_far {w:World} {tb:Nat} {vi vp:Value} (h:w.heap[tb]? = some (.cells #[vi,vp] 174 (0,0))):(∀ cur,w.heap[tb]? ≠ some (.cells cur 3 (0,0)))∧(∀ cur,w.heap[tb]? ≠ some (.cells cur 102 (0,0)))∧(∀ cur,w.heap[tb]? ≠ some (.cells cur 51 (0,0))):=
 ⟨(fun cur e=>by rw [h] at e;cases e),(fun cur e=>by rw [h] at e;cases e),(fun cur e=>by rw [h] at e;cases e)⟩
theorem tput_end {B:Nat→Prop} {w w1:World} {tb:Nat} {vi vp vi' : Value} {s:St9} (hb:w.heap[tb]? = some (.cells #[vi,vp] 174 (0,0))) (hnb:¬ B tb) (h:Lay B w vi vp s) (x:I3) (hr:w1.ownsRow 0 102 3 vi' (s.1.length+1) (insV s.1 ++ [.int .i64 x.1,.int .i64 x.2.1,.int .i64 x.2.2])) (hk:Kept (fun k=>vi.ownBlock=some k) w w1) (hn:∀ k,vi'.ownBlock=some k→vi.ownBlock=some k∨w.heap.size≤k) (hB:∀ b,B b→b<w.heap.size) :
  w1.heap[tb]? = some (.cells #[vi,vp] 174 (0,0))∧CtAt B (w1.setCell ⟨tb,0,none⟩ vi') tb (s.1 ++ [x],s.2)∧Kept (fun k=>¬ B k) w (w1.setCell ⟨tb,0,none⟩ vi'):=by
 have ne:¬ vi.ownBlock=some tb:=fun e=>by
  obtain ⟨cur,hc⟩:=own_typed h.ri e
  rw [hb] at hc;cases hc
 have hb1:=hk.at hb ne
 have hl:=h.ins x hr hk hn hB
 have ks:Kept (fun k=>k=tb) w1 (w1.setCell ⟨tb,0,none⟩ vi'):=kept_at _ _ _ _
 refine ⟨hb1,⟨vi', vp,?_,hnb,hl.kept ks (fun k e=>by subst e;exact tab_far hb1)⟩,?_⟩
 ·rw [setAt hb1];rfl
 ·exact Kept.trans (hk.mono (fun k _ e=>h.ib k e)) ks (fun k _ e=>by subst e;exact hnb)
set_option maxHeartbeats 8000000 in
theorem tput_any {B:Nat→Prop} {w:World} {tb:Nat} {s:St9} (h:CtAt B w tb s) (hB:∀ b,B b→b<w.heap.size) (hs:s.1.length≤1000000000000) (x y z:Int) :
  Calls Tryz.prog 125 #[.pointer (some ⟨tb,0,none⟩),.agg #[.int .i64 x,.int .i64 y,.int .i64 z]] w fun e w' => (∃ u,e=.returned u)∧CtAt B w' tb (s.1 ++ [(x,y,z)],s.2)∧Kept (fun k=>¬ B k) w w' := by
 obtain ⟨vi,vp,hb,hnb,hl⟩:=h
 obtain ⟨io,ic,rfl⟩:=row_shape hl.ri
 obtain ⟨i0,hi0,hz0,hz1,hz2⟩:=info_parts info_ins
 have hn1:s.1.length+1≤maxLen:=by unfold maxLen;omega
 have hn2:(s.1.length+1) * 24≤140737488355328:=by omega
 obtain ⟨W1,hW1⟩:∃ W1,W1=w.alloc (.cells #[.int .i64 x,.int .i64 y,.int .i64 z] 102):=⟨_,rfl⟩
 have KW:Same0 w W1:=by rw [hW1];exact (Kept.refl _ w).alloc _
 have hbx:W1.heap[w.heap.size]? = some (.cells #[.int .i64 x,.int .i64 y,.int .i64 z] 102 (0,0)):=by rw [hW1];exact heap_alloc_new w _
 have hb1:=KW.at0 hb
 have hr1:=KW.row hl.ri (fun _ _ f=>f)
 have x0:=cellAt hbx 0
 have x1:=cellAt hbx 1
 have x2:=cellAt hbx 2
 have c0:=cellAt hb1 0
 have f0:=frozenAt hb1 0
 have c1:(W1.alloc (.cells #[.int .i64 x,.int .i64 y,.int .i64 z] 102)).cell? ⟨tb,0,none⟩=some (.slice io s.1.length ic):=cellAt ((heap_alloc_old W1 _ (lt_of_at hb1)).trans hb1) 0
 simp only [List.getElem?_toArray,List.getElem?_cons_zero,List.getElem?_cons_succ] at x0 x1 x2 c0 c1
 have FIN:Hid (∀ gg cap w1,w1.ownsRow 0 102 3 (.slice (some ⟨gg,0,none⟩) (s.1.length+1) cap) (s.1.length+1) (insV s.1 ++ [.int .i64 x,.int .i64 y,.int .i64 z])→Kept (fun k=>(Value.slice io s.1.length ic).ownBlock=some k) W1 w1→((Value.slice io s.1.length ic).ownBlock=some gg∨gg=W1.heap.size+1)→(w1.cell? ⟨tb,0,none⟩=some (.slice io s.1.length ic)∧w1.frozen? ⟨tb,0,none⟩=false)∧CtAt B (w1.setCell ⟨tb,0,none⟩ (.slice (some ⟨gg,0,none⟩) (s.1.length+1) cap)) tb (s.1 ++ [(x,y,z)],s.2)∧Kept (fun k=>¬ B k) w (w1.setCell ⟨tb,0,none⟩ (.slice (some ⟨gg,0,none⟩) (s.1.length+1) cap))):=by
  intro gg cap w1 hr hk hat
  obtain ⟨a1,a2,a3⟩:=tput_end hb1 hnb (hl.same KW) (x,y,z) hr hk (fun k e=>by
   simp only [Value.ownBlock,Option.some.injEq] at e
   subst e
   rcases hat with q | q
   ·exact .inl q
   ·exact .inr (by omega)) (fun b q=>Nat.lt_of_lt_of_le (hB b q) KW.size)
  exact ⟨⟨cellAt a1 0,frozenAt a1 0⟩,a2,Kept.trans (KW.mono (fun _ _ f=>f.elim)) a3 (fun _ _ e=>e)⟩
 clear hl hb hbx
 go_enter Tryz.func125,Tryz.ntmps125
 go_upto_region 1 with fail
 rw [← hW1]
 clear hW1
 go_region_law ((refine step_append_lies _ (by rfl) _ _ _ (by rfl) 0 102 i0 _ 3 24 Tryz.underlying49 hi0 hz0 hz1 hz2 rfl (by omega) (.slice io s.1.length ic) s.1.length (insV s.1) (by rfl) ((hr1.alloc _).drew) ⟨W1.heap.size,0,none⟩ 1 1 [.int .i64 x,.int .i64 y,.int .i64 z] (by rfl) (by rfl) (World.news_of_block (cs:=#[.int .i64 x,.int .i64 y,.int .i64 z]) (t:=102) (fr:=(0,0)) (heap_alloc_new W1 _)) (by simp [Value.oneCell']) (by omega) hn1 hn2 (by omega) (W1.heap.size+1) (by simp) ?_;intro gg cap w1 hown1 hgrow hat hlt;obtain ⟨⟨k0,k1⟩,k2,k3⟩:=FIN.out gg cap w1 hown1 (Kept.grown (Kept.drew (Kept.alloc (Kept.refl _ W1) _)) hgrow (fun _ e _=>e)) hat))
 all_goals
  go_wp2
  go_returns
  exact ⟨⟨_,rfl⟩,k2,k3⟩
theorem Row.arg8 {base:Nat} {w:World} {v:Value} {xs:List Int} (h:Row base w v xs) (hl:xs.length * 8≤140737488351232):∃ ao ac,v=.slice ao xs.length ac∧ArgT w ao xs ac∧∀ a,ao=some a→base≤a.block:=by
 obtain ⟨ao,ac,e,h1,h2,h3⟩:=h.ints
 rcases h.2 with ⟨e2,h0⟩ | ⟨g,cap,cur,e2,hb,hg,hle,hmx,hsz,_⟩
 ·rw [e] at e2
  simp only [Value.slice.injEq] at e2
  obtain ⟨rfl,_,rfl⟩:=e2
  exact ⟨none,0,e,⟨⟨h1,by omega,fun _=>⟨h0,rfl⟩,by omega⟩,(fun a e=>by cases e),fun a e=>by cases e⟩,fun a e=>by cases e⟩
 ·rw [e] at e2
  simp only [Value.slice.injEq] at e2
  obtain ⟨rfl,_,rfl⟩:=e2
  exact ⟨_,ac,e,⟨⟨h1,hle,(fun e=>by cases e),by omega⟩,(fun a e=>by cases e;exact ⟨cur,hg⟩),fun a e=>by cases e;exact ⟨g,cur,rfl,hg,by simpa using hsz,hmx⟩⟩,fun a e=>by cases e;exact hb⟩
def LayIH (n:Nat):Prop:=∀ (B:Nat→Prop) (w:World) (tb:Nat) (v:Value) (t:Tr n) (s:St9),CtAt B w tb s→(∀ b,B b→b<w.heap.size)→CsB B w n v t→s.1.length+s.2.length+insN n t≤1000000000000 →
 Calls Tryz.prog 86 #[.pointer (some ⟨tb,0,none⟩),v] w fun e w' => (∃ u,e=.returned u)∧CtAt B w' tb (layS n t s)∧Kept (fun k=>¬ B k) w w'
theorem tpath_end {B:Nat→Prop} {w w1:World} {tb:Nat} {vi vp vp' : Value} {s:St9} (hb:w.heap[tb]? = some (.cells #[vi,vp] 174 (0,0))) (hnb:¬ B tb) (h:Lay B w vi vp s) {vs:List Value} (hp:w.ownsRow 0 51 1 vp s.2.length vs∧PathsC B w vs s.2) {p:List Int} {ao:Option Addr} {ac:Nat} (ha:ArgT w ao p ac) (hab:∀ a,ao=some a→¬ B a.block) (hr:w1.ownsRow 0 51 1 vp' (s.2.length+1) (vs ++ [.slice ao p.length ac])) (hk:Kept (fun k=>vp.ownBlock=some k) w w1) (hn:∀ k,vp'.ownBlock=some k→vp.ownBlock=some k∨w.heap.size≤k) (hB:∀ b,B b→b<w.heap.size) :
  w1.heap[tb]? = some (.cells #[vi,vp] 174 (0,0))∧CtAt B (w1.setCell ⟨tb,1,none⟩ vp') tb (s.1,s.2 ++ [p])∧Kept (fun k=>¬ B k) w (w1.setCell ⟨tb,1,none⟩ vp'):=by
 have ne:¬ vp.ownBlock=some tb:=fun e=>by
  obtain ⟨cur,hc⟩:=own_typed hp.1 e
  rw [hb] at hc;cases hc
 have hb1:=hk.at hb ne
 have hl:=h.path hp ha hab hr hk hn hB
 have ks:Kept (fun k=>k=tb) w1 (w1.setCell ⟨tb,1,none⟩ vp'):=kept_at _ _ _ _
 refine ⟨hb1,⟨vi,vp', ?_,hnb,hl.kept ks (fun k e=>by subst e;exact tab_far hb1)⟩,?_⟩
 ·rw [setAt hb1];rfl
 ·exact Kept.trans (hk.mono (fun k _ e=>h.pb k e)) ks (fun k _ e=>by subst e;exact hnb)
theorem KeptB.trans {B:Nat→Prop} {a b c:World} (h:Kept (fun k=>¬ B k) a b) (k:Kept (fun k=>¬ B k) b c):Kept (fun k=>¬ B k) a c:=Kept.trans h k (fun _ _ e=>e)
theorem KeptB.of {B:Nat→Prop} {a b:World} (h:Same0 a b):Kept (fun k=>¬ B k) a b:=Kept.mono h (fun _ _ f=>f.elim)
theorem KeptB.cs {B B' : Nat→Prop} {w w' : World} (hk:Kept (fun k=>¬ B k) w w') (hB:∀ b,B' b→B b) {n:Nat} {v:Value} {t:Tr n} (h:CsB B' w n v t):CsB B' w' n v t:=CsB.kept hk (fun b q r=>r (hB b q)) h
def BranchIH (n:Nat):Prop:=∀ (B:Nat→Prop) (w:World) (tb:Nat) (k r:Int) (p:List Int) (l:List (Int × Tr n)) (v:Value) (s:St9),CtAt B w tb s→(∀ b,B b→b<w.heap.size)→CsB B w (n+1) v (k,r,p,l)→s.1.length+s.2.length+(3+l.length+sumN (l.map (fun x=>insN n x.2)))≤1000000000000 →
 Calls Tryz.prog 126 #[.pointer (some ⟨tb,0,none⟩),v] w fun e w' => (∃ u,e=.returned u)∧CtAt B w' tb (layK (layS n) l (s.1.length+1) (headS p (l.map (fun x=>x.1)) s))∧Kept (fun k=>¬ B k) w w'
set_option maxHeartbeats 8000000 in
theorem lay_step {n:Nat} (IHB:BranchIH n):LayIH (n+1):=by
 intro B w tb v t s hT hB hC hs
 obtain ⟨k,r,p,l⟩:=t
 obtain ⟨po,pc,ko,kc,rfl,hrest⟩:=hC
 have hC:CsB B w (n+1) (.agg #[.int .i64 k,.int .i64 r,.slice po p.length pc,.slice ko l.length kc]) (k,r,p,l):=⟨po,pc,ko,kc,rfl,hrest⟩
 clear hrest
 obtain ⟨W1,hW1⟩:∃ W1,W1=w.alloc (.cells #[.int .i64 k,.int .i64 r,.slice po p.length pc,.slice ko l.length kc] 63):=⟨_,rfl⟩
 have KW:Same0 w W1:=by rw [hW1];exact (Kept.refl _ w).alloc _
 have hbx:W1.heap[w.heap.size]? = some (.cells #[.int .i64 k,.int .i64 r,.slice po p.length pc,.slice ko l.length kc] 63 (0,0)):=by rw [hW1];exact heap_alloc_new w _
 have x0:=cellAt hbx 0
 have x1:=cellAt hbx 1
 have x2:=cellAt hbx 2
 have x3:=cellAt hbx 3
 simp only [List.getElem?_toArray,List.getElem?_cons_zero,List.getElem?_cons_succ] at x0 x1 x2 x3
 have hB1:∀ b,B b→b<W1.heap.size:=fun b q=>Nat.lt_of_lt_of_le (hB b q) KW.size
 have CP:=fun x y z=>tput_any (hT.same KW) hB1 (by omega) x y z
 rw [insN_eq] at hs
 by_cases h1:k=1
 ·subst h1
  rw [layS_leaf rfl]
  have C:=CP 4 r 0
  clear CP hs hC hT
  go_enter Tryz.func86,Tryz.ntmps86
  go_upto_region 1 with fail
  rw [← hW1]
  clear hW1
  go_wp2_with (first | (go_at_call 125;refine C.mono ?_;rintro e w2 ⟨⟨u,rfl⟩,c1,c2⟩))
  go_returns
  exact ⟨⟨_,rfl⟩,c1,KeptB.trans (KeptB.of KW) c2⟩
 ·by_cases h2:k=2
  ·subst h2
   rw [layS_branch rfl]
   rw [if_pos rfl] at hs
   have C:=IHB B W1 tb 2 r p l _ s (hT.same KW) hB1 (hC.same KW) hs
   clear CP hs hC hT IHB
   go_enter Tryz.func86,Tryz.ntmps86
   go_upto_region 1 with fail
   rw [← hW1]
   clear hW1
   go_wp2_with (first | (go_at_call 126;refine C.mono ?_;rintro e w2 ⟨⟨u,rfl⟩,c1,c2⟩))
   go_returns
   exact ⟨⟨_,rfl⟩,c1,KeptB.trans (KeptB.of KW) c2⟩
  ·rw [layS_fail h1 h2]
   have C:=CP 3 0 0
   have e1:(k == 1)=false:=by simpa using h1
   have e2:(k == 2)=false:=by simpa using h2
   clear CP hs hC hT h1 h2
   go_enter Tryz.func86,Tryz.ntmps86
   go_upto_region 1 with fail
   rw [← hW1]
   clear hW1
   go_wp2_with (first | (go_at_call 125;refine C.mono ?_;rintro e w2 ⟨⟨u,rfl⟩,c1,c2⟩))
   go_returns
   exact ⟨⟨_,rfl⟩,c1,KeptB.trans (KeptB.of KW) c2⟩
def headK (p:List Int) (ks:List Int) (s:St9):St9:=(s.1 ++ [(1,(s.2.length:Int),0)]++ks.map (fun k=>((2,k,0):I3)),s.2 ++ [p])
theorem headK_len (p ks:List Int) (s:St9):(headK p ks s).1.length=s.1.length+1+ks.length∧(headK p ks s).2.length=s.2.length+1:=by simp [headK];omega
theorem headK_snoc (p ks:List Int) (k:Int) (s:St9):headK p (ks ++ [k]) s=((headK p ks s).1 ++ [(2,k,0)],(headK p ks s).2):=by simp [headK]
theorem headK_end (p ks:List Int) (s:St9):headS p ks s=((headK p ks s).1 ++ [(3,0,0)],(headK p ks s).2):=rfl
theorem layK_take {n:Nat} {l:List (Int × Tr n)} {k:Nat} (hk:k<l.length) (c:Nat) (s:St9):layK (layS n) (l.take (k+1)) c s=layS n l[k].2 (setB (layK (layS n) (l.take k) c s).1 (c+k) ((layK (layS n) (l.take k) c s).1.length:Int),(layK (layS n) (l.take k) c s).2):=by
 rw [List.take_add_one,List.getElem?_eq_getElem hk]
 simp only [Option.toList_some]
 rw [layK_snoc,List.length_take,Nat.min_eq_left (Nat.le_of_lt hk)]
theorem layK_le {n:Nat} (l:List (Int × Tr n)) (c:Nat) (s:St9):(layK (layS n) l c s).1.length+(layK (layS n) l c s).2.length≤s.1.length+s.2.length+sumN (l.map (fun x=>insN n x.2))∧s.1.length≤(layK (layS n) l c s).1.length:=by
 obtain ⟨a,b,_⟩:=layK_len (f:=layS n) (g:=insN n) l c s (fun x _ s=>layS_len n x.2 s)
 exact ⟨a,b⟩
theorem sumN_take {n:Nat} {l:List (Int × Tr n)} {k:Nat} (hk:k<l.length):sumN ((l.take k).map (fun x=>insN n x.2))+insN n l[k].2≤sumN (l.map (fun x=>insN n x.2)):=by
 have e:l=l.take k ++ [l[k]]++l.drop (k+1):=by
  rw [List.append_assoc,List.singleton_append,List.getElem_cons_drop,List.take_append_drop]
 have e2:sumN (l.map (fun x=>insN n x.2))=sumN ((l.take k ++ [l[k]]++l.drop (k+1)).map (fun x=>insN n x.2)):=by rw [← e]
 rw [e2,List.map_append,List.map_append,sumN_append,sumN_append]
 simp only [List.map_cons,List.map_nil,sumN];omega
theorem kid_at {B:Nat→Prop} {w:World} {n:Nat} {k r:Int} {p:List Int} {l:List (Int × Tr n)} {po ko:Option Addr} {pc kc:Nat} (h:CsB B w (n+1) (.agg #[.int .i64 k,.int .i64 r,.slice po p.length pc,.slice ko l.length kc]) (k,r,p,l)) {i:Nat} (hi:i<l.length):∃ b off tk tr tpo tpl tpc tko tkl tkc,ko=some ⟨b,off,none⟩∧w.cell? ⟨b,off+i * 5,none⟩=some (.int .i64 l[i].1)∧w.cell? ⟨b,off+i * 5+1,none⟩=some (.int .i64 tk)∧w.cell? ⟨b,off+i * 5+2,none⟩=some (.int .i64 tr)∧w.cell? ⟨b,off+i * 5+3,none⟩=some (.slice tpo tpl tpc)∧w.cell? ⟨b,off+i * 5+4,none⟩=some (.slice tko tkl tkc)∧CsB B w n (.agg #[.int .i64 tk,.int .i64 tr,.slice tpo tpl tpc,.slice tko tkl tkc]) l[i].2:=by
 obtain ⟨po', pc', ko', kc', e,h1,h2,h3,h4,h5⟩:=h
 simp only [Value.agg.injEq,Array.mk.injEq,List.cons.injEq,Value.slice.injEq,true_and,and_true] at e
 obtain ⟨⟨rfl,rfl⟩,rfl,rfl⟩:=e
 rcases h5 with rfl | ⟨b,off,rfl,hb,hl,hc⟩
 ·simp at hi
 ·obtain ⟨c0,c1,c2,c3,q0,q1,q2,q3,q4,q5⟩:=hc i hi
  obtain ⟨tk,tr,tpo,tpl,tpc,tko,tkl,tkc,e⟩:=q5.shape
  simp only [Value.agg.injEq,Array.mk.injEq,List.cons.injEq,and_true] at e
  obtain ⟨rfl,rfl,rfl,rfl⟩:=e
  exact ⟨b,off,tk,tr,tpo,tpl,tpc,tko,tkl,tkc,rfl,q0,q1,q2,q3,q4,q5⟩
set_option maxHeartbeats 32000000 in
theorem branch_step {n:Nat} (IH:LayIH n):BranchIH n:=by
 intro B w tb k r p l v s hT hB hC hs
 obtain ⟨po,pc,ko,kc,rfl,hA,hrest⟩:=hC
 have hC:CsB B w (n+1) (.agg #[.int .i64 k,.int .i64 r,.slice po p.length pc,.slice ko l.length kc]) (k,r,p,l):=⟨po,pc,ko,kc,rfl,hA,hrest⟩
 clear hrest
 obtain ⟨W1,hW1⟩:∃ W1,W1=w.alloc (.cells #[.int .i64 k,.int .i64 r,.slice po p.length pc,.slice ko l.length kc] 63):=⟨_,rfl⟩
 have KW:Same0 w W1:=by rw [hW1];exact (Kept.refl _ w).alloc _
 have hbx:W1.heap[w.heap.size]? = some (.cells #[.int .i64 k,.int .i64 r,.slice po p.length pc,.slice ko l.length kc] 63 (0,0)):=by rw [hW1];exact heap_alloc_new w _
 obtain ⟨B1,hB1⟩:∃ B1:Nat→Prop,B1=fun b=>B b∨b=w.heap.size:=⟨_,rfl⟩
 have LT:Hid (∀ b,B1 b→b<W1.heap.size):=fun b q=>by
  rw [hB1] at q
  rcases q with q | q
  ·exact Nat.lt_of_lt_of_le (hB b q) KW.size
  ·rw [q];exact lt_of_at hbx
 have UP:Hid (∀ b,B b→B1 b):=fun b q=>by rw [hB1];exact .inl q
 have T1:CtAt B1 W1 tb s:=by
  obtain ⟨vi,vp,t1,t2,t3⟩:=hT.mono (B' := B1) (fun b hb q=>by
   rw [hB1] at q
   rcases q with q | q
   ·exact q
   ·omega)
  exact ⟨vi,vp,KW.at0 t1,t2,t3.same KW⟩
 have BX:Hid (∀ ww,Kept (fun k=>¬ B1 k) W1 ww→ww.cell? ⟨w.heap.size,2,none⟩=some (.slice po p.length pc)∧ww.cell? ⟨w.heap.size,3,none⟩=some (.slice ko l.length kc)):=fun ww hk=>by
  have:=hk.at hbx (fun q=>q (by rw [hB1];exact .inr rfl))
  exact ⟨cellAt this 2,cellAt this 3⟩
 have HC:Hid (∀ ww,Kept (fun k=>¬ B1 k) W1 ww→CsB B ww (n+1) (.agg #[.int .i64 k,.int .i64 r,.slice po p.length pc,.slice ko l.length kc]) (k,r,p,l)):=fun ww hk=>KeptB.cs hk UP.out (hC.same KW)
 have PUT:Hid (∀ ww s' x y z,CtAt B1 ww tb s' → W1.heap.size≤ww.heap.size→s'.1.length≤1000000000000→Calls Tryz.prog 125 #[.pointer (some ⟨tb,0,none⟩),.agg #[.int .i64 x,.int .i64 y,.int .i64 z]] ww fun e w' => (∃ u,e=.returned u)∧CtAt B1 w' tb (s'.1 ++ [(x,y,z)],s'.2)∧Kept (fun k=>¬ B1 k) ww w'):=fun ww s' x y z h1 h2 h3=>tput_any h1 (fun b q=>Nat.lt_of_lt_of_le (LT.out b q) h2) h3 x y z
 have LAY:Hid (∀ ww v' t' s', CtAt B1 ww tb s' → W1.heap.size≤ww.heap.size→CsB B ww n v' t' → s'.1.length+s'.2.length+insN n t' ≤ 1000000000000→Calls Tryz.prog 86 #[.pointer (some ⟨tb,0,none⟩),v'] ww fun e w' => (∃ u,e=.returned u)∧CtAt B1 w' tb (layS n t' s')∧Kept (fun k=>¬ B1 k) ww w'):=fun ww v' t' s' h1 h2 h3 h4=>IH B1 ww tb v' t' s' h1 (fun b q=>Nat.lt_of_lt_of_le (LT.out b q) h2) (h3.mono (fun b _ q=>UP.out b q)) h4
 have CLO:Hid (∀ ww,Kept (fun k=>¬ B1 k) W1 ww→Calls Tryz.prog 177 #[.slice po p.length pc] ww fun e w' => ∃ qo qc,e=.returned (.slice qo p.length qc)∧Hid (ArgT w' qo p qc∧∀ a,qo=some a→ww.heap.size≤a.block)∧Same0 ww w'):=fun ww hk=>by
  obtain ⟨po', pc', ko', kc', e,h1,h2,_⟩:=HC.out ww hk
  simp only [Value.agg.injEq,Array.mk.injEq,List.cons.injEq,Value.slice.injEq,true_and,and_true] at e
  obtain ⟨⟨rfl,rfl⟩,_⟩:=e
  refine (cloneI_any h1).mono ?_
  rintro e w' ⟨v,rfl,hr,hk'⟩
  obtain ⟨qo,qc,rfl,g1,g2⟩:=hr.arg8 h1.size
  exact ⟨qo,qc,rfl,⟨g1,g2⟩,hk'⟩
 have FINAL:Hid (∀ ww,CtAt B1 ww tb (layK (layS n) l (s.1.length+1) (headS p (l.map (fun x=>x.1)) s))→Kept (fun k=>¬ B1 k) W1 ww→CtAt B ww tb (layK (layS n) l (s.1.length+1) (headS p (l.map (fun x=>x.1)) s))∧Kept (fun k=>¬ B k) w ww):=fun ww h1 h2=>⟨h1.mono (fun b _ q=>UP.out b q),KeptB.trans (KeptB.of KW) (h2.mono (fun b _ q r=>q (UP.out b r)))⟩
 have hl:l.length≤1000000000000:=by omega
 have HS:Hid (s.1.length+s.2.length+(3+l.length+sumN (l.map (fun x=>insN n x.2)))≤1000000000000):=hs
 have hsz:s.1.length+s.2.length+l.length≤1000000000000:=by omega
 clear hC hA hB hT IH hs hB1 hbx
 obtain ⟨N1,hN1⟩:∃ N1,N1=s.1.length+1:=⟨_,rfl⟩
 have HN1:Hid (N1=s.1.length+1):=hN1
 have hN1b:N1+l.length≤1000000000001:=by omega
 clear hN1
 obtain ⟨i0,hi0,hz0,hz1,hz2⟩:=info_parts info_path
 have TC:Hid (∀ ww s', CtAt B1 ww tb s' → ∃ io ic vo vc,ww.cell? ⟨tb,0,none⟩=some (.slice io s'.1.length ic)∧ww.cell? ⟨tb,1,none⟩=some (.slice vo s'.2.length vc)):=fun ww s' h=>by
  obtain ⟨vi,vp,t1,t2,t3⟩:=h
  obtain ⟨io,ic,rfl⟩:=row_shape t3.ri
  obtain ⟨vs,t4,t5⟩:=t3.rp
  obtain ⟨vo,vc,rfl⟩:=row_shape t4
  exact ⟨io,ic,vo,vc,cellAt t1 0,cellAt t1 1⟩
 obtain ⟨io,ic,vo,vc,c0,c1⟩:=TC.out W1 s T1
 have C1:=PUT.out W1 s 1 (s.2.length:Int) 0 T1 (Nat.le_refl _) (by omega)
 obtain ⟨P,hP⟩:∃ P,P=s.2.length:=⟨_,rfl⟩
 have HP:Hid (P=s.2.length):=hP
 rw [← hP] at c1 C1
 have hPb:P≤1000000000000:=by omega
 clear hP
 go_enter Tryz.func126,Tryz.ntmps126
 go_upto_region 1 with fail
 rw [← hW1]
 clear hW1
 go_upto_region 2 with (first | (go_at_call 125;refine C1.mono ?_;rintro e w2 ⟨⟨u,rfl⟩,T2,k2⟩))
 clear c0 c1 C1 T1
 go_cut [] from 17 to 28 (fun wc=>CtAt B1 wc tb (headK p [] s)∧Kept (fun k=>¬ B1 k) W1 wc)
 case first=>
  rw [HP.out] at T2
  obtain ⟨vi,vp,b2,nb2,L2⟩:=T2
  obtain ⟨vs,r2,p2⟩:=L2.rp
  obtain ⟨vo,vc,rfl⟩:=row_shape r2
  simp only at r2 p2
  rw [← HP.out] at r2
  have hbz:W1.heap.size≤w2.heap.size:=k2.size
  obtain ⟨x2, -⟩:=BX.out w2 k2
  have d1:=cellAt b2 1
  simp only [List.getElem?_toArray,List.getElem?_cons_zero,List.getElem?_cons_succ] at d1
  rw [← HP.out] at d1
  have CC:=CLO.out w2.drew (Kept.drew k2)
  have AT3:Hid (∀ w3,Same0 w2.drew w3→w3.cell? ⟨tb,1,none⟩=some (.slice vo P vc)∧(∀ o,(w3.alloc o).cell? ⟨tb,1,none⟩=some (.slice vo P vc))∧w3.ownsRow 0 51 1 (.slice vo P vc) P vs):=fun w3 hk=>by
   have h3:=hk.at0 (show w2.drew.heap[tb]? = _ from b2)
   have c3:=cellAt h3 1
   simp only [List.getElem?_toArray,List.getElem?_cons_zero,List.getElem?_cons_succ] at c3
   rw [← HP.out] at c3
   exact ⟨c3,fun o=>cell_al c3 o,hk.row (show w2.drew.ownsRow 0 51 1 (.slice vo P vc) P vs from r2) (fun _ _ f=>f)⟩
  have FIN:Hid (∀ w3 qo qc gg cap w4,Same0 w2.drew w3→(ArgT w3 qo p qc∧∀ a,qo=some a→w2.drew.heap.size≤a.block)→w4.ownsRow 0 51 1 (.slice (some ⟨gg,0,none⟩) (P+1) cap) (P+1) (vs ++ [.slice qo p.length qc])→Kept (fun k=>(Value.slice vo P vc).ownBlock=some k) w3 w4→((Value.slice vo P vc).ownBlock=some gg∨gg=w3.heap.size+1)→(w4.cell? ⟨tb,1,none⟩=some (.slice vo P vc)∧w4.frozen? ⟨tb,1,none⟩=false)∧CtAt B1 (w4.setCell ⟨tb,1,none⟩ (.slice (some ⟨gg,0,none⟩) (P+1) cap)) tb (headK p [] s)∧Kept (fun k=>¬ B1 k) W1 (w4.setCell ⟨tb,1,none⟩ (.slice (some ⟨gg,0,none⟩) (P+1) cap))):=by
   intro w3 qo qc gg cap w4 k3 ha hr hk hat
   have k23:Same0 w2 w3:=Kept.trans (Kept.drew (Kept.refl (fun _=>False) w2)) k3 (fun _ _ f=>f)
   have hz3:=k23.size
   rw [HP.out] at hr hk hat ⊢
   have r3:=(AT3.out w3 k3).2.2
   rw [HP.out] at r3
   obtain ⟨a1,a2,a3⟩:=tpath_end (B:=B1) (k23.at0 b2) nb2 (L2.same k23) (vs:=vs) ⟨r3,p2.kept k23 (fun _ f=>f.elim)⟩ ha.1 (fun a e q=>by have:=ha.2 a e;have:=LT.out _ q;have e4:w2.drew.heap.size=w2.heap.size:=rfl;omega) hr hk (fun k e=>by
    simp only [Value.ownBlock,Option.some.injEq] at e
    subst e
    exact hat.imp id (fun q=>by omega)) (fun b q=>by have:=LT.out b q;omega)
   refine ⟨⟨cellAt a1 1,frozenAt a1 1⟩,?_,KeptB.trans (KeptB.trans k2 (KeptB.of k23)) a3⟩
   have e5:headK p [] s=(s.1 ++ [(1,(s.2.length:Int),0)],s.2 ++ [p]):=by simp [headK]
   rw [e5]
   exact a2
  clear L2 p2
  have hn1:P+1≤maxLen:=by unfold maxLen;omega
  go_region_law (first
   | (refine step_append_lies _ (by rfl) _ _ 50 (by rfl) 0 51 i0 _ 1 24 Tryz.underlying50 hi0 hz0 hz1 hz2 rfl (by omega) (.slice vo P vc) P vs (by rfl) (r3.alloc _) ⟨w3.heap.size,0,none⟩ 1 1 [.slice qo p.length qc] (by rfl) (by rfl) (World.news_of_block (cs:=#[.slice qo p.length qc]) (t:=51) (fr:=(0,0)) (heap_alloc_new w3 _)) (by simp [Value.oneCell']) (by omega) hn1 (by omega) (by omega) (w3.heap.size+1) (by simp) ?_;intro gg cap w4 hown hgrow hat hlt;obtain ⟨⟨m0,m1⟩,m2,m3⟩:=FIN.out w3 qo qc gg cap w4 k3 ha.out hown (Kept.grown (Kept.alloc (Kept.refl _ w3) _) hgrow (fun _ e _=>e)) hat)
   | (refine step_callx rfl CC (by simp [go_sem]) ?_;rintro e w3 ⟨qo,qc,rfl,ha,k3⟩;refine ⟨_,rfl,?_⟩;obtain ⟨y1,y2,r3⟩:=AT3.out w3 k3;have y3:=y2 (.cells #[.slice qo p.length qc] 51)))
  all_goals
   go_wp2_with fail
   go_meet
   case rel=>exact ⟨m2,m3⟩
 case rest=>
  obtain ⟨T3,k3⟩:=hcut
  clear T2 k2
  obtain ⟨io,ic,vo,vc,c0,c1⟩:=TC.out wc _ T3
  obtain ⟨-,x3⟩:=BX.out wc k3
  have e0:(headK p [] s).1.length=N1:=by rw [HN1.out];simp [headK]
  rw [e0] at c0
  clear e0 c1
  have H3:Hid (CtAt B1 wc tb (headK p ((l.take 0).map (fun x=>x.1)) s)∧Kept (fun k=>¬ B1 k) W1 wc):=⟨by simpa using T3,k3⟩
  clear T3 k3
  go_upto_region 5 with fail
  go_loopw [37] (fun s37 wr=>∃ k:Nat,k≤l.length∧s37=.int .i64 (k:Int)∧CtAt B1 wr tb (headK p ((l.take k).map (fun x=>x.1)) s)∧Kept (fun k=>¬ B1 k) W1 wr) (fun s37 _=>l.length-(intOf s37).toNat)
  case atStart=>exact ⟨0,Nat.zero_le _,rfl,H3.out⟩
  case round=>
   clear c0 x3 H3
   obtain ⟨j,hj,rfl,hT,hK⟩:=hrel
   by_cases hlt:j<l.length
   ·obtain ⟨kb,koff,tk,tr,tpo,tpl,tpc,tko,tkl,tkc,rfl,q0,q1,q2,q3,q4, -⟩:=kid_at (HC.out wr hK) hlt
    have ka:Same0 wr (wr.alloc (.cells #[.int .i64 l[j].1,.int .i64 tk,.int .i64 tr,.slice tpo tpl tpc,.slice tko tkl tkc] 161)):=(Kept.refl _ _).alloc _
    have CP:=PUT.out _ _ 2 l[j].1 0 (hT.same ka) (Nat.le_trans hK.size ka.size) (by rw [(headK_len _ _ _).1];simp only [List.length_map,List.length_take];have:=HS.out;omega)
    have MORE:Hid (∀ w', CtAt B1 w' tb ((headK p ((l.take j).map (fun x=>x.1)) s).1 ++ [(2,l[j].1,0)],(headK p ((l.take j).map (fun x=>x.1)) s).2)→Kept (fun k=>¬ B1 k) (wr.alloc (.cells #[.int .i64 l[j].1,.int .i64 tk,.int .i64 tr,.slice tpo tpl tpc,.slice tko tkl tkc] 161)) w' → CtAt B1 w' tb (headK p ((l.take (j+1)).map (fun x=>x.1)) s)∧Kept (fun k=>¬ B1 k) W1 w'):=fun w' h1 h2=>by
     refine ⟨?_,KeptB.trans (KeptB.trans hK (KeptB.of ka)) h2⟩
     rw [List.take_add_one,List.getElem?_eq_getElem hlt,List.map_append]
     simp only [Option.toList_some,List.map_cons,List.map_nil]
     rw [headK_snoc]
     exact h1
    have i1:(0:Int)≤(j:Int):=by omega
    have i2:(j:Int)<(l.length:Int):=by omega
    generalize l[j].1=z at *
    clear hT hK PUT LAY CLO FINAL HC BX TC ka
    go_wp2_with (first | (go_at_call 125;refine CP.mono ?_;rintro e w5 ⟨⟨u,rfl⟩,T5,k5⟩))
    have M:=MORE.out w5 T5 k5
    go_roundw
    case rel=>first | exact ⟨j+1,by omega,by go_num,M⟩ | ((repeat apply Exists.intro);exact ⟨⟨j+1,by omega,by go_num,M⟩,rfl⟩)
    case measure=>simp [intOf];omega
   ·obtain rfl:j=l.length:=by omega
    rw [List.take_of_length_le (Nat.le_refl _)] at hT
    have C9:=PUT.out wr _ 3 0 0 hT hK.size (by rw [(headK_len _ _ _).1];simp only [List.length_map];have:=HS.out;omega)
    rw [← headK_end] at C9
    clear hT hlt hj
    go_upto_region 10 with (first | (go_at_call 125;refine C9.mono ?_;rintro e w5 ⟨⟨u,rfl⟩,T5,k5⟩))
    have K5:=KeptB.trans hK k5
    obtain ⟨-,x3⟩:=BX.out w5 K5
    have H5:Hid (CtAt B1 w5 tb (layK (layS n) (l.take 0) N1 (headS p (l.map (fun x=>x.1)) s))∧Kept (fun k=>¬ B1 k) W1 w5):=⟨by simpa [layK] using T5,K5⟩
    clear T5 k5 hK K5 C9 PUT
    go_upto_region 11 with fail
    go_loopw [53] (fun s53 wr=>∃ k:Nat,k≤l.length∧s53=.int .i64 (k:Int)∧CtAt B1 wr tb (layK (layS n) (l.take k) N1 (headS p (l.map (fun x=>x.1)) s))∧Kept (fun k=>¬ B1 k) W1 wr) (fun s53 _=>l.length-(intOf s53).toNat)
    case atStart=>exact ⟨0,Nat.zero_le _,rfl,H5.out⟩
    case round=>
     clear x3 H5
     obtain ⟨j,hj,rfl,hT,hK⟩:=hrel
     by_cases hlt:j<l.length
     ·obtain ⟨kb,koff,tk,tr,tpo,tpl,tpc,tko,tkl,tkc,rfl,q0,q1,q2,q3,q4,q5⟩:=kid_at (HC.out wr hK) hlt
      have hle:=layK_le (l.take j) N1 (headS p (l.map (fun x=>x.1)) s)
      have hst:=sumN_take (n:=n) hlt
      have e1:(headS p (l.map (fun x=>x.1)) s).1.length=N1+l.length+1:=by rw [HN1.out];simp [headS];omega
      have e2:(headS p (l.map (fun x=>x.1)) s).2.length=s.2.length+1:=by simp [headS]
      rw [e1,e2] at hle
      have NX:=layK_take hlt N1 (headS p (l.map (fun x=>x.1)) s)
      have HNX:Hid _:=NX
      obtain ⟨SJ,hSJ⟩:∃ SJ,SJ=layK (layS n) (l.take j) N1 (headS p (l.map (fun x=>x.1)) s):=⟨_,rfl⟩
      rw [← hSJ] at hle hT HNX
      clear hSJ NX e1 e2
      have hsj:SJ.1.length+SJ.2.length+insN n l[j].2≤1000000000000:=by have:=HS.out;have:=HN1.out;omega
      obtain ⟨Q,hQ⟩:∃ Q,Q=N1+j:=⟨_,rfl⟩
      have hQn:Q<SJ.1.length:=by omega
      obtain ⟨vi,vp,b3,nb3,L3⟩:=hT
      obtain ⟨g,cap,rfl⟩:∃ g cap,vi=.slice (some ⟨g,0,none⟩) SJ.1.length cap:=by
       rcases L3.ri.2 with ⟨_,e0⟩ | ⟨g,cap,_,e0,_⟩
       ·omega
       ·exact ⟨g,cap,e0⟩
      obtain ⟨W,hW⟩:∃ W,W=wr.alloc (.cells #[.int .i64 l[j].1,.int .i64 tk,.int .i64 tr,.slice tpo tpl tpc,.slice tko tkl tkc] 161):=⟨_,rfl⟩
      have ka:Same0 wr W:=by rw [hW];exact (Kept.refl _ _).alloc _
      have bK:W.heap[wr.heap.size]? = some (.cells #[.int .i64 l[j].1,.int .i64 tk,.int .i64 tr,.slice tpo tpl tpc,.slice tko tkl tkc] 161 (0,0)):=by rw [hW];exact heap_alloc_new _ _
      obtain ⟨L4,⟨old,o1⟩,o2,ks⟩:=(L3.same ka).setB rfl hQn (SJ.1.length:Int)
      have gl:g<wr.heap.size:=typed_lt L3.ri rfl
      have hg:¬ B1 g:=L3.ib g rfl
      have b4:=ka.at0 b3
      have c4:=cellAt b4 0
      simp only [List.getElem?_toArray,List.getElem?_cons_zero] at c4
      have ntb:¬ tb=g:=fun e=>by
       obtain ⟨cur,hc⟩:=own_typed L3.ri rfl
       rw [← e,b3] at hc;cases hc
      have T6:CtAt B1 (W.setCell ⟨g,Q * 3+2,none⟩ (.int .i64 (SJ.1.length:Int))) tb (setB SJ.1 Q (SJ.1.length:Int),SJ.2):=⟨_,vp,ks.at b4 ntb,nb3,L4⟩
      have K6:Kept (fun k=>¬ B1 k) W1 (W.setCell ⟨g,Q * 3+2,none⟩ (.int .i64 (SJ.1.length:Int))):=KeptB.trans (KeptB.trans hK (KeptB.of ka)) (ks.mono (fun k _ e=>by rw [e];exact hg))
      have bK6:=ks.at bK (fun e=>by omega)
      have z1:=cellAt bK6 1
      have z2:=cellAt bK6 2
      have z3:=cellAt bK6 3
      have z4:=cellAt bK6 4
      simp only [List.getElem?_toArray,List.getElem?_cons_zero,List.getElem?_cons_succ] at z1 z2 z3 z4
      have kd:Same0 (W.setCell ⟨g,Q * 3+2,none⟩ (.int .i64 (SJ.1.length:Int))) (W.setCell ⟨g,Q * 3+2,none⟩ (.int .i64 (SJ.1.length:Int))).drew:=Kept.drew (Kept.refl _ _)
      have C6:=LAY.out _ _ _ _ (T6.same kd) (Nat.le_trans K6.size kd.size) (CsB.same (CsB.kept ks (fun b q e=>by rw [e] at q;exact hg (UP.out _ q)) (q5.same ka)) kd) (by simp only [setB_length];exact hsj)
      have MORE:Hid (∀ w', CtAt B1 w' tb (layS n l[j].2 (setB SJ.1 Q (SJ.1.length:Int),SJ.2))→Kept (fun k=>¬ B1 k) (W.setCell ⟨g,Q * 3+2,none⟩ (.int .i64 (SJ.1.length:Int))).drew w' → CtAt B1 w' tb (layK (layS n) (l.take (j+1)) N1 (headS p (l.map (fun x=>x.1)) s))∧Kept (fun k=>¬ B1 k) W1 w'):=fun w' h1 h2=>by
       refine ⟨?_,KeptB.trans (KeptB.trans K6 (KeptB.of kd)) h2⟩
       rw [HNX.out,← hQ]
       exact h1
      have i1:(0:Int)≤(j:Int):=by omega
      have i2:(j:Int)<(l.length:Int):=by omega
      have hQi:(N1:Int)+(j:Int)=(Q:Int):=by omega
      obtain ⟨M,hM⟩:∃ M,M=SJ.1.length:=⟨_,rfl⟩
      have hMb:M≤1000000000000:=by omega
      have i3:(Q:Int)<(M:Int):=by omega
      have i4:(0:Int)≤(Q:Int):=by omega
      have j1:(N1:Int)≤1000000000001:=by omega
      have j2:(j:Int)≤1000000000001:=by omega
      rw [← hM] at c4 C6 MORE z1 z2 z3 z4
      generalize l[j].1=z at *
      clear hK T6 K6 kd L3 L4 b3 b4 ks bK6 bK LAY CLO FINAL HC BX TC q5 hle hst hsj hQn hM hQ HNX HS
      go_upto_region 13 with fail
      rw [← hW]
      clear hW ka
      go_region
      all_goals
       go_wp2_with (first | (go_at_call 86;refine C6.mono ?_;rintro e w7 ⟨⟨u,rfl⟩,T7,k7⟩))
       have MM:=MORE.out w7 T7 k7
       go_roundw
       case rel=>first | exact ⟨j+1,by omega,by go_num,MM⟩ | ((repeat apply Exists.intro);exact ⟨⟨j+1,by omega,by go_num,MM⟩,rfl⟩)
       case measure=>simp [intOf];omega
     ·obtain rfl:j=l.length:=by omega
      rw [List.take_of_length_le (Nat.le_refl _)] at hT
      rw [HN1.out] at hT
      have F:=FINAL.out _ hT hK
      clear hT hK LAY CLO FINAL HC BX TC HS HN1
      go_wp2_with fail
      go_returns
      exact ⟨⟨_,rfl⟩,F⟩
theorem lay_any:∀ n,LayIH n
 | 0=>fun B w tb v t s hT hB hC hs=>hC.elim
 | n+1=>lay_step (branch_step (lay_any n))
end Go.Proofs.YtmjgnfkbnofjoaaGreatDoor
