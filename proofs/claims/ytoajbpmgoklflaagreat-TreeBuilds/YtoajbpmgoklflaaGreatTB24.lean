import Derived.Test.YtoajbpmgoklflaaGreatTB20
import Derived.Test.YtoajbpmgoklflaaGreatTB22
import Derived.Test.YtoajbpmgoklflaaGreatTB23
import Derived.Test.YtoajbpmgoklflaaGreatTB14
import Derived.Test.YtoajbpmgoklflaaGreatTB13
import Derived.Test.YtoajbpmgoklflaaGreatTB11
import Derived.Test.YtoajbpmgoklflaaGreatTB15
import Derived.Test.YtoajbpmgoklflaaGreatTB17
namespace Go.Proofs.YtoajbpmgoklflaaGreat
set_option maxRecDepth 100000
set_option linter.unusedVariables false
open Go.RowKit
attribute [local go_sem ↓] Go.wp_at_zero Go.wp_at_succ
theorem ov_yes {L:List Sym} {R l:List Ru} {n:Nat} {x:Ru} (hx:x=l.getD n ([],[])) (h:(R++l.take n).all (fun a=>!meetB L a.1 x.1)=true):ckB L R l 7 n=true:=by subst hx;exact h
theorem ov_no {L:List Sym} {R l:List Ru} {n:Nat} {x:Ru} (hx:x=l.getD n ([],[])) {k:Nat} (hk:k<(R++l.take n).length) (h1:((R++l.take n).take k).all (fun a=>!meetB L a.1 x.1)=true) (h2:meetB L (R++l.take n)[k].1 x.1=true):ckB L R l 7 n=false∧wrongL L R l 7 n=[(77,(n:Int)),(78,(k:Int))]:=by
 have e2:(R++l.take n).findIdx (fun a=>meetB L a.1 x.1)=k:=(List.findIdx_eq hk).2 ⟨h2,fun j hj=>by
  have:=List.all_eq_true.1 h1 ((R++l.take n)[j]'(by omega)) (by
   refine List.mem_iff_getElem.2 ⟨j,by simp at hk ⊢;omega,by simp⟩)
  simpa using this⟩
 subst hx
 refine ⟨?_,?_⟩
 ·show (R++l.take n).all _=false
  rw [List.all_eq_false]
  exact ⟨_,List.getElem_mem hk,fun e=>by rw [h2] at e;cases e⟩
 ·unfold wrongL
  rw [if_neg (by omega),if_pos rfl,e2]
theorem PartA.ans {L:List Sym} {R l:List Ru} {j0 j1:Nat} {ws:List (Int × Int)} (h:PartA L R l j0 j1 ws) (hj:j1≤8) (hne:ws≠[]):Ans L R l ws:=by
 rcases h with ⟨e,_⟩ | ⟨j,n,_,h2,h3,h4,h5,h6⟩
 ·exact absurd e hne
 ·exact .inr ⟨j,n,by omega,h3,h4,h5,h6⟩
theorem PartA.upto {L:List Sym} {R l:List Ru} {j0 j1:Nat} (h:PartA L R l j0 j1 []):Upto L R l j1 0:=by
 rcases h with ⟨_,e⟩ | ⟨j,n,_,_,_,_,_,h6⟩
 ·exact e
 ·exact absurd h6.symm (wrongL_ne _ _ _ _ _)
theorem rclash7 {w:World} {rv:Value} {n:Nat} {L:List Sym} (h:Rl n w rv L) {ao bo:Option Addr} {ac bc:Nat} {a b:List Int} (ha:IntsAt w ao a) (hb:IntsAt w bo b) (hca:checkE L a=0) (hcb:checkE L b=0) :
  Calls Tryz.prog 119 #[rv,.slice ao a.length ac,.slice bo b.length bc] w fun e w' => e=.returned (.bool (claB L a b))∧Same0 w w' :=
 rclash_any hca hcb (solved_any hca hcb (laid_any h ha hb hca hcb true))
def RChk (L:List Sym) (R l:List Ru) (w:World) (e:Ending) (w' : World):Prop:=∃ ws v,e=.returned v∧Ans L R l ws∧WrsAt w' v ws∧Same0 w w'
set_option maxHeartbeats 16000000 in
theorem rchk_any {w:World} {m:Nat} {ro:Option Addr} {rc:Nat} {mo:Option Addr} {mc:Nat} {L:List Sym} {R:List Ru} (h:MR w m ro rc mo mc L R) {lo:Option Addr} {lc:Nat} {l:List Ru} (hl:RsAt w lo l) (hll:l.length≤140737488355328) (hln:lo=none→lc=0) :
  Calls Tryz.prog 78 #[.pointer (some ⟨m,0,none⟩),.slice lo l.length lc] w (RChk L R l w):=by
 have c1:=cellAt h.blk 1
 simp only [List.getElem?_toArray,List.getElem?_cons_succ,List.getElem?_cons_zero] at c1
 have hRl:=h.le
 by_cases hbig:100<R.length+l.length
 ·have hl0:0<l.length:=by omega
  have A:Hid (Ans L R l [(70,0)]):=.inr ⟨0,0,by omega,hl0,Upto.nil _ _ _,by simp [ckB,askB];omega,rfl⟩
  have CO:=fun ww=>rone_any ww 70 0
  clear h hl
  by_cases h1:100<l.length
  ·have g1:(100:Int)<(l.length:Int):=by omega
   go_enter Tryz.func78,Tryz.ntmps78
   go_wp2_with (first | (go_at_call 116;refine (CO _).mono ?_;rintro e w2 ⟨v,rfl,hv,hk2⟩))
   go_ret
   exact ⟨_,_,rfl,A.out,hv,hk2⟩
  ·have g1:¬ (100:Int)<(l.length:Int):=by omega
   have g2:(100:Int)<(R.length:Int)+(l.length:Int):=by omega
   go_enter Tryz.func78,Tryz.ntmps78
   go_wp2_with (first | (go_at_call 116;refine (CO _).mono ?_;rintro e w2 ⟨v,rfl,hv,hk2⟩))
   go_ret
   exact ⟨_,_,rfl,A.out,hv,hk2⟩
 ·have g1:¬ (100:Int)<(l.length:Int):=by omega
  have g2:¬ (100:Int)<(R.length:Int)+(l.length:Int):=by omega
  have up1:Upto L R l 1 0:=⟨fun i hi mm hm=>by
   obtain rfl:i=0:=by omega
   simp [ckB,askB];omega,fun mm hm=>absurd hm (by omega)⟩
  have CT:=rterms_any (lc:=lc) h hl (by omega) up1
  go_enter Tryz.func78,Tryz.ntmps78
  go_upto_region 4 with (first | (go_at_call 117;refine CT.mono ?_;rintro e w2 ⟨ws2,v2,rfl,hP2,hv2,k2⟩;obtain ⟨vo2,vc2,rfl,hv2'⟩:=id hv2))
  by_cases hw2:ws2=[]
  ·subst hw2
   have up3:=hP2.upto
   have hm2:=h.same k2
   have hl2:=hl.same k2
   have CS:=rshapes_any (lc:=lc) hm2 hl2 (by omega) up3
   clear CT c1 hv2 hv2' hP2
   go_upto_region 7 with (first | (go_at_call 118;refine CS.mono ?_;rintro e w3 ⟨ws3,v3,rfl,hP3,hv3,k3⟩;obtain ⟨vo3,vc3,rfl,hv3'⟩:=id hv3))
   have K3:=k2.trans' k3
   by_cases hw3:ws3=[]
   ·subst hw3
    have up7:Hid (Upto L R l 7 0):=hP3.upto
    have hok:∀ i (hi:i<l.length),checkE L l[i].1=0∧checkE L l[i].2=0:=fun i hi=>up3.ok1 hi
    have hm3:=h.same K3
    have hl3:=hl.same K3
    have k0:Same0 w3 (w3.alloc (.cells #[] 68)):=(Kept.refl _ _).alloc _
    have r0:(w3.alloc (.cells #[] 68)).ownsRow w3.heap.size 68 2 (.slice (some ⟨w3.heap.size,0,none⟩) 0 0) 0 []:=⟨rfl,.inr ⟨w3.heap.size,0, #[],rfl,Nat.le_refl _,heap_alloc_new w3 _,Nat.le_refl _,by unfold maxLen;omega,rfl,rfl⟩⟩
    have N1:Hid (mo=none→mc=0∧R=[]):=hm3.rs.none hm3.nil
    have N2:Hid (lo=none→lc=0∧l=[]):=hl3.none hln
    obtain ⟨us,hu,US⟩:=hm3.rs.src
    obtain ⟨ms,hms,MS⟩:=hl3.src
    have z0:=k0.size
    have d1:=cellAt (hm3.same k0).blk 1
    simp only [List.getElem?_toArray,List.getElem?_cons_succ,List.getElem?_cons_zero] at d1
    clear CS hv3 hv3' hP3 hm2 hl2 k2 k3 up3
    go_upto_region 10 with (first | (at_builtin;refine wpList_rules rfl (.tmp 39) (.tmp 43) rfl w3.heap.size 0 [] _ rfl r0 mo mc R us rfl hu (US.out _ k0) N1.out z0 (by omega) ?_;intro v4 w4 hr4' k4;have s4:=own_kept k0 r0 (Nat.le_refl _) k4;have hr4:w4.ownsRow w3.heap.size 68 2 v4 R.length us:=(by simpa using hr4');obtain ⟨vo4,vc4,rfl⟩:=row_shape hr4;have z4:=s4.size) | (at_builtin;refine wpList_rules rfl (.tmp 44) (.tmp 45) rfl w3.heap.size _ _ _ rfl hr4 lo lc l ms rfl hms (MS.out _ s4) N2.out z4 (by omega) ?_;intro v5 w5 hr5 k5;have s5:=own_kept s4 hr4 (Nat.le_refl _) k5;obtain ⟨vo5,vc5,rfl⟩:=row_shape hr5))
    obtain ⟨o5,c5,e5,r5,hN3,hN4⟩:=row_rules hr5 (by simpa using (hu.append hms).same s5)
    simp only [Value.slice.injEq] at e5
    obtain ⟨rfl,hN5,rfl⟩:=e5
    clear hN3 hN4 hN5
    have K5:=K3.trans' s5
    have hm5:=h.same K5
    have hl5:=hl.same K5
    clear r0 N1 N2 hu US hms MS z0 d1 hr4' hr4 hr5 k4 k5 s4 s5 z4 hm3 hl3 K3 k0
    have hcat:∀ n (hn:n<l.length) k (hk:k<R.length+n),∃ h1:k<(R++l).length,∃ h2:k<(R++l.take n).length,(R++l)[k]=(R++l.take n)[k]:=fun n hn k hk=>by
     refine ⟨by simp;omega,by simp;omega,?_⟩
     by_cases hkr:k<R.length
     ·rw [List.getElem_append_left hkr,List.getElem_append_left hkr]
     ·rw [List.getElem_append_right (by omega),List.getElem_append_right (by omega)]
      simp
    have hallok:∀ k (hk:k<(R++l).length),checkE L (R++l)[k].1=0:=fun k hk=>by
     by_cases hkr:k<R.length
     ·rw [List.getElem_append_left hkr];exact h.ok _ (List.getElem_mem hkr)
     ·rw [List.getElem_append_right (by omega)];exact (hok _ (by simp at hk;omega)).1
    have HCAT:Hid (∀ n (hn:n<l.length) k (hk:k<R.length+n),∃ h1:k<(R++l).length,∃ h2:k<(R++l.take n).length,(R++l)[k]=(R++l.take n)[k]):=hcat
    have HALL:Hid (∀ k (hk:k<(R++l).length),checkE L (R++l)[k].1=0):=hallok
    have HOK:Hid (∀ i (hi:i<l.length),checkE L l[i].1=0∧checkE L l[i].2=0):=hok
    clear hcat hallok hok
    have M0:Same0 w5 w5:=Kept.refl _ _
    have FK:Hid (Same0 w w5):=K5
    clear h hl K5
    go_wp2
    go_loopw [7] (fun i wr=>∃ n:Nat,n≤l.length∧i=.int .i64 (n:Int)∧Hid (Upto L R l 7 n)∧Same0 w5 wr) (fun i _=>l.length-(intOf i).toNat)
    case atStart=>exact ⟨0,Nat.zero_le _,rfl,up7,M0⟩
    case round=>
     clear M0 up7
     obtain ⟨n,hnl,rfl,hu,hs⟩:=hrel
     by_cases hlt:n<l.length
     ·have i2:(n:Int)<(l.length:Int):=by omega
      go_wp2
      go_loopw [8] (fun i wr=>∃ k:Nat,k≤R.length+n∧i=.int .i64 (k:Int)∧Hid (((R++l.take n).take k).all (fun a=>!meetB L a.1 (l.getD n ([],[])).1)=true)∧Same0 w5 wr) (fun i _=>R.length+n-(intOf i).toNat)
      case atStart=>exact ⟨0,Nat.zero_le _,rfl,by show _=_;simp,hs⟩
      case round=>
       clear hs
       obtain ⟨k,hkl,rfl,ha,hs⟩:=hrel
       have hm6:=hm5.same hs
       have c1:=cellAt hm6.blk 1
       simp only [List.getElem?_toArray,List.getElem?_cons_succ,List.getElem?_cons_zero] at c1
       by_cases hkk:k<R.length+n
       ·obtain ⟨hk1,hk2,ek⟩:=HCAT.out n hlt k hkk
        have hao:=HALL.out k hk1
        obtain ⟨vb,voff,rfl,hvb,eo,ec,fo,fc,q0,_,B1,_⟩:=(r5.same hs).get hk1
        obtain ⟨lb,off,rfl,hlb,ao,ac,bo,bc,p0,_,A1,_⟩:=(hl5.same hs).get hlt
        have hxo:=(HOK.out n hlt).1
        have hxd:l.getD n ([],[])=l[n]:=by simp [List.getD,hlt]
        have hmeet:meetB L (R++l.take n)[k].1 (l.getD n ([],[])).1 = !claB L l[n].1 (R++l)[k].1:=by
         rw [hxd,← ek];exact meetB_eq hao hxo
        have i1:(0:Int)≤(n:Int):=by omega
        have j1:(0:Int)≤(k:Int):=by omega
        have j2:(k:Int)<(R.length:Int)+(n:Int):=by omega
        have j3:(k:Int)<(R.length:Int)+(l.length:Int):=by omega
        have j4:(k:Int)<((R++l).length:Int):=by omega
        have HS:Hid (∀ ww,Same0 wr ww→ww.cell? ⟨m,0,none⟩=some (.slice ro L.length rc)∧ww.cell? ⟨lb,off+n * 2,none⟩=some (.slice ao l[n].1.length ac)∧ww.cell? ⟨vb,voff+k * 2,none⟩=some (.slice eo (R++l)[k].1.length ec)):=fun ww hk=>⟨cellAt (hm6.same hk).blk 0,(hk.cell (p:=⟨lb,off+n * 2,none⟩) hlb (fun f=>f)).trans p0,(hk.cell (p:=⟨vb,voff+k * 2,none⟩) hvb (fun f=>f)).trans q0⟩
        have C:Hid (∀ ww,Same0 wr ww→Calls Tryz.prog 119 #[.slice ro L.length rc,.slice ao l[n].1.length ac,.slice eo (R++l)[k].1.length ec] ww fun e w' => e=.returned (.bool (claB L l[n].1 (R++l)[k].1))∧Same0 wr w'):=fun ww hk=>(rclash7 (hm6.same hk).rl (A1.same hk).at' (B1.same hk).at' hxo hao).mono (fun e w' ⟨q1,q2⟩=>⟨q1,hk.trans' q2⟩)
        have CC0:=HS.out wr (Kept.refl _ _)
        have W1:Same0 wr wr.drew:=Kept.drew (Kept.refl _ _)
        have P0:Hid (claB L l[n].1 (R++l)[k].1=true→((R++l.take n).take (k+1)).all (fun a=>!meetB L a.1 (l.getD n ([],[])).1)=true):=fun q=>by
         have:=ha.out
         rw [List.take_add_one,List.getElem?_eq_getElem hk2,List.all_append,this]
         simp only [Option.toList_some,List.all_cons,List.all_nil,hmeet,q]
         rfl
        have P1:Hid (claB L l[n].1 (R++l)[k].1=false→Ans L R l [(77,(n:Int)),(78,(k:Int))]):=fun q=>by
         obtain ⟨o1,o2⟩:=ov_no rfl hk2 ha.out (by rw [hmeet,q];rfl)
         exact .inr ⟨7,n,by omega,hlt,hu.out,o1,o2.symm⟩
        generalize hLn:l[n].1=xl at *
        generalize hRk:(R++l)[k].1=yl at *
        cases hq:claB L xl yl with
        | true=>
         have P:=P0.out hq
         rw [hq] at C
         have P' : Hid (((R++l.take n).take (k+1)).all (fun a=>!meetB L a.1 (l.getD n ([],[])).1)=true):=P
         clear P P0 P1 hq ha hu hmeet ek hLn hRk hm6 A1 B1 p0 q0 hxd hao hxo
         go_wp2
         go_region_held3 (fun w' => w'.cell? ⟨m,0,none⟩=some (.slice ro L.length rc)∧w'.cell? ⟨lb,off+n * 2,none⟩=some (.slice ao xl.length ac)∧w'.cell? ⟨vb,voff+k * 2,none⟩=some (.slice eo yl.length ec)) (first | exact cc1 | exact CC0) (first | (go_at_call 119;refine (C.out _ W1).mono ?_;rintro e w7 ⟨rfl,hw7⟩;have cc1:=HS.out _ hw7))
         all_goals
          go_wp2
          go_roundw
          case rel=>first | exact ⟨k+1,by omega,by go_num,P', hs.trans' hw7⟩ | ((repeat apply Exists.intro);exact ⟨⟨k+1,by omega,by go_num,P', hs.trans' hw7⟩,rfl⟩)
          case measure=>simp [intOf];omega
        | false=>
         have P:=P1.out hq
         rw [hq] at C
         have P' : Hid (Ans L R l [(77,(n:Int)),(78,(k:Int))]):=P
         clear P P0 P1 hq ha hu hmeet ek hLn hRk hm6 A1 B1 p0 q0 hxd hao hxo
         go_wp2
         go_region_held3 (fun w' => w'.cell? ⟨m,0,none⟩=some (.slice ro L.length rc)∧w'.cell? ⟨lb,off+n * 2,none⟩=some (.slice ao xl.length ac)∧w'.cell? ⟨vb,voff+k * 2,none⟩=some (.slice eo yl.length ec)) (first | exact cc1 | exact CC0) (first | (go_at_call 119;refine (C.out _ W1).mono ?_;rintro e w7 ⟨rfl,hw7⟩;have cc1:=HS.out _ hw7))
         all_goals
          go_wp2
          go_ret
          exact ⟨_,_,rfl,P'.out,wrs_two w7 _ _ _ _ rfl,FK.out.trans' (hs.trans' (Kept.alloc hw7 _))⟩
       ·have hA:Hid (Upto L R l 7 (n+1)):=hu.out.step (ov_yes rfl (by
         have:=ha.out
         rwa [List.take_of_length_le (by simp;omega)] at this))
        have hkk' : ¬ (k:Int)<(R.length:Int)+(n:Int):=by omega
        clear hu ha
        go_wp2
        go_roundw
        case rel=>first | exact ⟨n+1,by omega,by go_num,hA,hs⟩ | ((repeat apply Exists.intro);exact ⟨⟨n+1,by omega,by go_num,hA,hs⟩,rfl⟩)
        case measure=>simp [intOf];omega
     ·have A:Hid (Ans L R l []):=.inl ⟨rfl,hu.out.next (by omega)⟩
      have hlt' : ¬ (n:Int)<(l.length:Int):=by omega
      clear hu hlt
      go_wp2
      go_ret
      exact ⟨_,_,rfl,A.out,wrs_nil _,FK.out.trans' hs⟩
   ·have A:Hid (Ans L R l ws3):=hP3.ans (by omega) hw3
    have hp:(0:Int)<(ws3.length:Int):=by
     have:0<ws3.length:=List.length_pos_iff.2 hw3
     omega
    clear CS hv3' hP3
    go_wp2
    go_ret
    exact ⟨_,_,rfl,A.out,hv3,K3⟩
  ·have A:Hid (Ans L R l ws2):=hP2.ans (by omega) hw2
   have hp:(0:Int)<(ws2.length:Int):=by
    have:0<ws2.length:=List.length_pos_iff.2 hw2
    omega
   clear CT hv2' hP2
   go_wp2
   go_ret
   exact ⟨_,_,rfl,A.out,hv2,k2⟩
structure MO (w:World) (m:Nat) (ro:Option Addr) (rc:Nat) (L:List Sym) (R:List Ru) (lv:Value) (vs:List Value):Prop where
 blk:w.heap[m]? = some (.cells #[.slice ro L.length rc,lv] 31 (0,0))
 rl:Rl w.heap.size w (.slice ro L.length rc) L
 row:w.ownsRow 0 68 2 lv R.length vs
 own:OCells w vs R
 le:R.length≤100
 ok:∀ x∈R,checkE L x.1=0∧checkE L x.2=0
theorem MO.same {w w' : World} {m:Nat} {ro:Option Addr} {rc:Nat} {L:List Sym} {R:List Ru} {lv:Value} {vs:List Value} (h:MO w m ro rc L R lv vs) (hk:Same0 w w'):MO w' m ro rc L R lv vs:=
 ⟨hk.at0 h.blk,rl_up (h.rl.same hk) hk.size,hk.row h.row (fun _ _ f=>f),h.own.same hk,h.le,h.ok⟩
theorem MO.read {w:World} {m:Nat} {ro:Option Addr} {rc:Nat} {L:List Sym} {R:List Ru} {lv:Value} {vs:List Value} (h:MO w m ro rc L R lv vs):∃ mo mc,lv=.slice mo R.length mc∧MR w m ro rc mo mc L R:=by
 obtain ⟨ao,cap,rfl,h1,h2,_⟩:=row_rules h.row (h.own.rcells (fun x hx=>⟨(ok_len (h.ok x hx)).1.2,(ok_len (h.ok x hx)).2.2⟩))
 exact ⟨ao,cap,rfl,h.blk,h.rl,h1,h2,h.le,fun x hx=>(h.ok x hx).1⟩
theorem own_typed {base n size:Nat} {w:World} {T:TypeId} {v:Value} {vs:List Value} (h:w.ownsRow base T size v n vs) {q:Nat} (hq:v.ownBlock=some q):∃ cur,w.heap[q]? = some (.cells cur T (0,0)):=by
 rcases h.2 with ⟨rfl,_⟩ | ⟨g,cap,cur,rfl,_,hg,_⟩
 ·simp [Value.ownBlock] at hq
 ·simp only [Value.ownBlock,Option.some.injEq] at hq
  subst hq
  exact ⟨cur,hg⟩
theorem step_rule8 {w0 W:World} {ops:Array Oper} {o:Oper} {a:Act} {K:Act→World→Prop} {Q:Exit→Act→World→Prop} {E:Prop} (hgd:o.guard=none) (s x:Operand)
  (ho:o.op=.call { callee:=.builtin .append,args:=#[s,x],argTypes:=#[23,23] })
  (base k:Nat) (vs:List Value) (v:Value) (hs:a.eval s=v) (hW:Same0 w0 W) (hr:w0.ownsRow base 68 2 v k vs) (A B:Value) (q:Nat) (hx:a.eval x=.slice (some ⟨q,0,none⟩) 1 1) (hq:W.heap[q]? = some (.cells #[A,B] 68 (0,0))) (hA:A.oneCell' = true) (hB:B.oneCell' = true) (hb:base≤w0.heap.size) (hsz:(k+1) * 48≤140737488355328)
  (h:∀ g cap w', w'.ownsRow base 68 2 (.slice (some ⟨g,0,none⟩) (k+1) cap) (k+1) (vs ++ [A,B])→Kept (fun q=>v.ownBlock=some q) w0 w' → (v.ownBlock=some g∨w0.heap.size≤g)→K (a.put o.dst (.slice (some ⟨g,0,none⟩) (k+1) cap)) w') :
  if Region.wanted o (yielded ops a.tmps)=true then Oper.wp Tryz.prog o a W K Q else E:=by
 obtain ⟨i,hi,hz0,hz1,hz2⟩:=info_parts info_rule
 refine step_append_lies _ hgd s x 23 ho base 68 i _ 2 48 Tryz.underlying23 hi hz0 hz1 hz2 rfl (by decide) v k vs hs (hW.row hr (fun _ _ f=>f)) ⟨q,0,none⟩ 1 1 [A,B] hx rfl (World.news_of_block (cs:=#[A,B]) (t:=68) (fr:=(0,0)) hq) (by intro u hu;simp at hu;rcases hu with rfl | rfl <;> assumption) (by omega) (by unfold maxLen;omega) hsz (Nat.le_trans hb hW.size) W.heap.size rfl ?_
 intro g cap w' hown hgrow hat hlt
 exact h g cap w' hown (Kept.grown (Kept.mono hW (fun _ _ f=>f.elim)) hgrow (fun _ e _=>e)) (hat.imp id (fun e=>by have:=hW.size;omega))
theorem MO.more {w w2 w9:World} {m:Nat} {ro:Option Addr} {rc:Nat} {L:List Sym} {R:List Ru} {lv:Value} {vs:List Value} {x:Ru} {g c g' c' gg cap:Nat} (h:MO w m ro rc L R lv vs) (hk:Same0 w w2) (t1:TmAt w2 g c x.1) (t2:TmAt w2 g' c' x.2) (hx:checkE L x.1=0∧checkE L x.2=0) (hlen:R.length+1≤100)
  (r9:w9.ownsRow 0 68 2 (.slice (some ⟨gg,0,none⟩) (R.length+1) cap) (R.length+1) (vs ++ [.slice (some ⟨g,0,none⟩) x.1.length c,.slice (some ⟨g', 0,none⟩) x.2.length c'])) (k9:Kept (fun q=>lv.ownBlock=some q) w2 w9) :
  (w9.cell? ⟨m,1,none⟩=some lv∧w9.frozen? ⟨m,1,none⟩=false)∧MO (w9.setCell ⟨m,1,none⟩ (.slice (some ⟨gg,0,none⟩) (R.length+1) cap)) m ro rc L (R ++ [x]) (.slice (some ⟨gg,0,none⟩) (R.length+1) cap) (vs ++ [.slice (some ⟨g,0,none⟩) x.1.length c,.slice (some ⟨g', 0,none⟩) x.2.length c']):=by
 have h2:=h.same hk
 have nm:¬ lv.ownBlock=some m:=fun e=>by obtain ⟨cu,a⟩:=own_typed h2.row e;rw [h2.blk] at a;cases a
 have b9:=k9.at h2.blk nm
 have ks:Kept (fun q=>q=m) w9 (w9.setCell ⟨m,1,none⟩ (.slice (some ⟨gg,0,none⟩) (R.length+1) cap)):=Kept.setCell (p:=⟨m,1,none⟩) (Kept.refl (fun q=>q=m) w9) (fun _=>rfl) _
 have ty1:∀ q,lv.ownBlock=some q→∀ cur,w2.heap[q]? ≠ some (.cells cur 3 (0,0)):=fun q e cur a=>by obtain ⟨cu,b⟩:=own_typed h2.row e;rw [a] at b;cases b
 have ty2:∀ q,q=m→∀ cur,w9.heap[q]? ≠ some (.cells cur 3 (0,0)):=fun q e cur a=>by subst e;rw [b9] at a;cases a
 refine ⟨⟨cellAt b9 1,frozenAt b9 1⟩,setAt b9 1 _,?_,?_,?_,by simp;omega,fun y hy=>?_⟩
 ·obtain ⟨a1,a2,a3⟩:=h2.rl
  have ns:∀ q,(Value.slice ro L.length rc).ownBlock=some q→¬ lv.ownBlock=some q:=fun q e f=>by
   obtain ⟨cu,b⟩:=own_typed a1 e
   obtain ⟨cv,d⟩:=own_typed h2.row f
   rw [b] at d;cases d
  have ns2:∀ q,(Value.slice ro L.length rc).ownBlock=some q→¬ q=m:=fun q e f=>by
   obtain ⟨cu,b⟩:=own_typed a1 e
   subst f
   have hm:=h2.blk
   rw [b] at hm;cases hm
  refine ⟨ks.row (k9.row a1 ns) ns2,fun q e=>?_,a3⟩
  have:=a2 q e
  have z1:=k9.size
  have z2:=ks.size
  omega
 ·rw [List.length_append]
  exact ks.row r9 (fun q e f=>by obtain ⟨cu,a⟩:=own_typed r9 e;subst f;rw [b9] at a;cases a)
 ·exact ((h2.own.append (OCells.one t1 t2)).kept k9 ty1).kept ks ty2
 ·rcases List.mem_append.1 hy with hy | hy
  ·exact h.ok y hy
  ·simp at hy;subst hy;exact hx
set_option maxHeartbeats 8000000 in
theorem radd_yes {w:World} {m:Nat} {ro:Option Addr} {rc:Nat} {L:List Sym} {R:List Ru} {lv:Value} {vs:List Value} (h:MO w m ro rc L R lv vs) {lo:Option Addr} {lc:Nat} {l:List Ru} (hl:RsAt w lo l) (hll:l.length≤140737488355328) (hln:lo=none→lc=0) (ha:Ans L R l []) (hok:∀ x∈l,checkE L x.1=0∧checkE L x.2=0) (hlen:R.length+l.length≤100)
  (hlk:∀ ww,Kept (fun q=>q=m∨lv.ownBlock=some q) w ww→RsAt ww lo l) :
  Calls Tryz.prog 34 #[.pointer (some ⟨m,0,none⟩),.slice lo l.length lc] w fun e w' => ∃ lv' vs', e=.returned (.slice none 0 0)∧MO w' m ro rc L (R++l) lv' vs' ∧ (∀ q,lv'.ownBlock=some q→lv.ownBlock=some q∨w.heap.size≤q)∧Kept (fun q=>q=m∨lv.ownBlock=some q) w w' := by
 obtain ⟨mo,mc,hlv,hm⟩:=h.read
 have CK:=rchk_any hm (lc:=lc) hl hll hln
 have c1:=cellAt h.blk 1
 have HH:Hid (∀ ww,Same0 w ww→MO ww m ro rc L R lv vs):=fun ww hk=>h.same hk
 clear hlv hm hl h
 go_enter Tryz.func34,Tryz.ntmps34
 go_wp2_with (first | (go_at_call 78;refine CK.mono ?_;rintro e w1 ⟨ws,v,rfl,hws,hwa,hk1⟩;obtain rfl:ws=[]:=hws.uniq ha;obtain ⟨wo,wc', rfl,_⟩:=hwa))
 have M1:=HH.out w1 hk1
 have K1:Kept (fun q=>q=m∨lv.ownBlock=some q) w w1:=Kept.mono hk1 (fun _ _ f=>f.elim)
 clear HH CK hk1 c1
 go_loopw [6] (fun i wr=>∃ (k:Nat) (lk:Value) (vk:List Value),k≤l.length∧i=.int .i64 (k:Int)∧Hid (MO wr m ro rc L (R++l.take k) lk vk)∧Hid (∀ q,lk.ownBlock=some q→lv.ownBlock=some q∨w.heap.size≤q)∧Kept (fun q=>q=m∨lv.ownBlock=some q) w wr) (fun i _=>l.length-(intOf i).toNat)
 case atStart=>exact ⟨0,lv,vs,Nat.zero_le _,rfl,by simpa [Hid] using M1,(fun q e=>.inl e),K1⟩
 case round=>
  clear M1 K1
  obtain ⟨k,lk,vk,hk,rfl,hM,hB,hw⟩:=hrel
  by_cases hlt:k<l.length
  ·obtain ⟨gb,goff,rfl,hgb,go1,gc1,go2,gc2,r0,r1,A1,A2⟩:=(hlk wr hw).get hlt
   have hxk:=hok _ (List.getElem_mem hlt)
   have hxl:=ok_len hxk
   obtain ⟨a1,rfl⟩:∃ a1,go1=some a1:=by
    cases go1 with
    | none=>have:=(A1.nil rfl).1;omega
    | some a=>exact ⟨a,rfl⟩
   obtain ⟨a2,rfl⟩:∃ a2,go2=some a2:=by
    cases go2 with
    | none=>have:=(A2.nil rfl).1;omega
    | some a=>exact ⟨a,rfl⟩
   have i1:(0:Int)≤(k:Int):=by omega
   have i2:(k:Int)<(l.length:Int):=by omega
   have hn:(R++l.take k).length=R.length+k:=by simp;omega
   have CELLS:Hid (∀ ww,Same0 wr ww→ww.cell? ⟨m,1,none⟩=some lk∧ww.cell? ⟨gb,goff+k * 2,none⟩=some (.slice (some a1) l[k].1.length gc1)∧ww.cell? ⟨gb,goff+k * 2+1,none⟩=some (.slice (some a2) l[k].2.length gc2)):=fun ww hk=>⟨cellAt (hk.at0 hM.out.blk) 1,(hk.cell (p:=⟨gb,goff+k * 2,none⟩) hgb (fun f=>f)).trans r0,(hk.cell (p:=⟨gb,goff+k * 2+1,none⟩) hgb (fun f=>f)).trans r1⟩
   have CO:Hid (∀ ww,Same0 wr ww→Calls Tryz.prog 79 #[.agg #[.slice (some a1) l[k].1.length gc1,.slice (some a2) l[k].2.length gc2]] ww fun e w' => ∃ g c g' c', e=.returned (.agg #[.slice (some ⟨g,0,none⟩) l[k].1.length c,.slice (some ⟨g', 0,none⟩) l[k].2.length c'])∧TmAt w' g c l[k].1∧TmAt w' g' c' l[k].2∧Same0 wr w'):=fun ww hk=>(rown_any (ac:=gc1) (bc:=gc2) (A1.same hk).at' (A2.same hk).at' hxl.1.1 hxl.2.1 hxl.1.2 hxl.2.2).mono (fun e w' ⟨g,c,g', c', q1,q2,q3,_,_,q4⟩=>⟨g,c,g', c', q1,q2,q3,hk.trans' q4⟩)
   have W1:Same0 wr wr.drew:=Kept.drew (Kept.refl _ _)
   have CC0:=CELLS.out wr (Kept.refl _ _)
   have HRW:Hid (∀ ww,Same0 wr ww→ww.ownsRow 0 68 2 lk (R.length+k) vk):=fun ww hk=>by rw [← hn];exact (hM.out.same hk).row
   have h48:(R.length+k+1) * 48≤140737488355328:=by omega
   have FIN:Hid (∀ w2 g c g' c' gg cap w9,Same0 wr w2→TmAt w2 g c l[k].1→TmAt w2 g' c' l[k].2→w9.ownsRow 0 68 2 (.slice (some ⟨gg,0,none⟩) (R.length+k+1) cap) (R.length+k+1) (vk ++ [.slice (some ⟨g,0,none⟩) l[k].1.length c,.slice (some ⟨g', 0,none⟩) l[k].2.length c'])→Kept (fun q=>lk.ownBlock=some q) w2 w9→(lk.ownBlock=some gg∨w2.heap.size≤gg)→(w9.cell? ⟨m,1,none⟩=some lk∧w9.frozen? ⟨m,1,none⟩=false)∧Hid (∃ (k' : Nat) (lk' : Value) (vk' : List Value),k' ≤ l.length∧Value.int .i64 ((k:Int)+1)=.int .i64 (k' : Int)∧lk' = .slice (some ⟨gg,0,none⟩) (R.length+k+1) cap∧Hid (MO (w9.setCell ⟨m,1,none⟩ (.slice (some ⟨gg,0,none⟩) (R.length+k+1) cap)) m ro rc L (R++l.take k') lk' vk')∧Hid (∀ q,lk'.ownBlock=some q→lv.ownBlock=some q∨w.heap.size≤q)∧Kept (fun q=>q=m∨lv.ownBlock=some q) w (w9.setCell ⟨m,1,none⟩ (.slice (some ⟨gg,0,none⟩) (R.length+k+1) cap)))):=by
    intro w2 g c g' c' gg cap w9 s2 t1 t2 r9 k9 hat
    have:=hM.out.more (gg:=gg) (cap:=cap) s2 t1 t2 hxk (by omega) (by rw [hn];exact r9) k9
    rw [hn] at this
    refine ⟨this.1,k+1,_,vk ++ [.slice (some ⟨g,0,none⟩) l[k].1.length c,.slice (some ⟨g', 0,none⟩) l[k].2.length c'],hlt,rfl,rfl,?_,?_,?_⟩
    ·show MO _ m ro rc L (R++l.take (k+1)) _ _
     rw [List.take_add_one,List.getElem?_eq_getElem hlt,← List.append_assoc];exact this.2
    ·intro q e
     simp only [Value.ownBlock,Option.some.injEq] at e
     subst e
     rcases hat with e | e
     ·exact hB.out _ e
     ·have:=hw.size;have:=s2.size;exact .inr (by omega)
    ·have sub:∀ q,q<w.heap.size→lk.ownBlock=some q→q=m∨lv.ownBlock=some q:=fun q hq e=>(hB.out q e).elim .inr (fun e=>absurd hq (by omega))
     exact Kept.setCell (p:=⟨m,1,none⟩) ((hw.trans (Kept.mono s2 (fun _ _ f=>f.elim)) (fun _ _ e=>e)).trans k9 (fun q hq e=>sub q hq e)) (fun _=>.inl rfl) _
   have hz0:0≤wr.heap.size:=Nat.zero_le _
   clear hM hB hw hn A1 A2 r0 r1 hxk hxl hlk
   go_wp2_with fail
   obtain ⟨x1,x2,x3⟩:=CC0
   go_region_law (first
    | (refine step_callx rfl (CO.out _ W1) (by simp [go_sem]) ?_;rintro e w2 ⟨g,c,g', c', rfl,t1,t2,hk2⟩;refine ⟨_,rfl,?_⟩;obtain ⟨cc1,cc2,cc3⟩:=CELLS.out _ hk2;obtain ⟨cd1,_,_⟩:=CELLS.out _ (hk2.alloc (.cells #[.slice (some ⟨g,0,none⟩) l[k].1.length c,.slice (some ⟨g', 0,none⟩) l[k].2.length c'] 68)))
    | (refine step_rule8 (w0:=w2) (by rfl) _ _ (by rfl) 0 (R.length+k) vk lk (by rfl) (by first | exact (Kept.refl _ w2).alloc _ | exact (Kept.refl _ w2).drew.alloc _ | exact ((Kept.refl _ w2).alloc _).drew) (HRW.out _ hk2) (.slice (some ⟨g,0,none⟩) l[k].1.length c) (.slice (some ⟨g', 0,none⟩) l[k].2.length c') w2.heap.size (by rfl) (heap_alloc_new w2 _) (by rfl) (by rfl) (Nat.zero_le _) h48 ?_;intro gg cap w9 r9 k9 hat;obtain ⟨⟨y1,y2⟩,FF⟩:=FIN.out w2 g c g' c' gg cap w9 hk2 t1 t2 r9 k9 hat))
   all_goals
    go_wp2_with fail
    obtain ⟨k', lk', vk', z1,z2,rfl,z3,z4,z5⟩:=FF.out
    exact ⟨⟨k', _,vk', z1,z2,z3,z4,z5⟩,by simp [intOf];omega⟩
  ·obtain rfl:k=l.length:=by omega
   have HM:Hid (MO wr m ro rc L (R++l) lk vk):=by have:=hM.out;rw [List.take_length] at this;exact this
   clear hM
   go_wp2
   go_ret
   exact ⟨lk,vk,rfl,HM.out,hB.out,hw⟩
set_option maxHeartbeats 4000000 in
theorem radd7_no {w:World} {m:Nat} {ro:Option Addr} {rc:Nat} {L:List Sym} {R:List Ru} {lv:Value} {vs:List Value} (h:MO w m ro rc L R lv vs) {lo:Option Addr} {lc:Nat} {l:List Ru} (hl:RsAt w lo l) (hll:l.length≤140737488355328) (hln:lo=none→lc=0) {ws:List (Int × Int)} (ha:Ans L R l ws) (hne:ws≠[]) :
  Calls Tryz.prog 34 #[.pointer (some ⟨m,0,none⟩),.slice lo l.length lc] w fun e w' => ∃ v,e=.returned v∧WrsAt w' v ws∧Same0 w w' := by
 obtain ⟨mo,mc,hlv,hm⟩:=h.read
 have CK:=rchk_any hm (lc:=lc) hl hll hln
 have hp:(0:Int)<(ws.length:Int):=by have:=List.length_pos_iff.2 hne;omega
 have HW:Hid (∀ w1 v,WrsAt w1 v ws→∃ wo wc,v=.slice wo ws.length wc∧Hid (WrsAt w1 v ws)):=fun w1 v hv=>by
  obtain ⟨wo,wc,e,_⟩:=id hv
  exact ⟨wo,wc,e,hv⟩
 clear hlv hm hl h
 go_enter Tryz.func34,Tryz.ntmps34
 go_wp2_with (first | (go_at_call 78;refine CK.mono ?_;rintro e w1 ⟨ws', v,rfl,hws,hwa,hk1⟩;obtain rfl:ws' = ws:=hws.uniq ha;obtain ⟨wo,wc', rfl,hwh⟩:=HW.out _ _ hwa;clear hwa))
 go_ret
 exact ⟨_,rfl,hwh.out,hk1⟩
end Go.Proofs.YtoajbpmgoklflaaGreat
namespace Go.Proofs.YtoajbpmgoklflaaGreat
set_option maxRecDepth 100000
set_option linter.unusedVariables false
open Go.RowKit Go.Deep
attribute [local go_sem ↓] Go.wp_at_zero Go.wp_at_succ
section
variable {H : Type} {enc : TypeId × Value → H} {w : World} {spare : Nat → Bool} {held : Bool}
end
end Go.Proofs.YtoajbpmgoklflaaGreat
namespace Go.Proofs.YtoajbpmgoklflaaGreat
set_option maxRecDepth 100000
set_option linter.unusedVariables false
open Go.RowKit
attribute [local go_sem ↓] Go.wp_at_zero Go.wp_at_succ
def StoredR (L:List Sym):List Ru→List Ru→List Ru→Prop
 | [],R,R' => R' = R
 | x :: r,R,R' => (Ans L R [x] []∧StoredR L r (R ++ [x]) R')∨(¬ Ans L R [x] []∧StoredR L r R R')
theorem StoredR.snoc {L:List Sym} {x:Ru}:∀ {l R R1 R2:List Ru},StoredR L l R R1→(Ans L R1 [x] []∧R2=R1 ++ [x])∨(¬ Ans L R1 [x] []∧R2=R1)→StoredR L (l ++ [x]) R R2
 | [],R,R1,R2,h,k=>by
  have h:R1=R:=h
  subst h
  rcases k with ⟨a,b⟩ | ⟨a,b⟩
  ·exact .inl ⟨a,b⟩
  ·exact .inr ⟨a,b⟩
 | y :: r,R,R1,R2,h,k=>by
  rcases h with ⟨a,b⟩ | ⟨a,b⟩
  ·exact .inl ⟨a,b.snoc k⟩
  ·exact .inr ⟨a,b.snoc k⟩
def FarB (w:World) (q:Nat):Prop:=(∃ c,w.heap[q]? = some (.cells c 139 (0,0)))∨(∃ c,w.heap[q]? = some (.cells c 68 (0,0)))∨∃ c,w.heap[q]? = some (.cells c 31 (0,0))
theorem FarB.no_int {w:World} {q:Nat} (h:FarB w q):∀ cur,w.heap[q]? ≠ some (.cells cur 3 (0,0)):=by
 intro cur e
 rcases h with ⟨c,h⟩ | ⟨c,h⟩ | ⟨c,h⟩ <;> (rw [h] at e;cases e)
theorem FarB.no_sym {w:World} {q:Nat} (h:FarB w q):∀ cur,w.heap[q]? ≠ some (.cells cur 129 (0,0)):=by
 intro cur e
 rcases h with ⟨c,h⟩ | ⟨c,h⟩ | ⟨c,h⟩ <;> (rw [h] at e;cases e)
theorem FarB.no_sig {w:World} {k b:Nat} {L:List Sym} {sv:Value} {mr:Option Nat} (h:FarB w k) (hs:SigAt w b L sv mr):¬ Foot b sv mr k:=by
 rintro (e | e | e)
 ·subst e
  have:=hs.blk
  rcases h with ⟨c,h⟩ | ⟨c,h⟩ | ⟨c,h⟩ <;> (rw [h] at this;cases this)
 ·obtain ⟨c', this⟩:=own_blk hs.row e
  exact h.no_sym c' this
 ·subst e
  obtain ⟨n,D,hm,_⟩:=hs.map
  obtain ⟨es,clock,this,_⟩:=hm
  rcases h with ⟨c,h⟩ | ⟨c,h⟩ | ⟨c,h⟩ <;> (rw [h] at this;cases this)
theorem Sg.keptF {n b:Nat} {w w' : World} {L:List Sym} {S:Nat→Prop} (h:Sg n w b L) (hk:Kept S w w') (hS:∀ k,S k→FarB w k):Sg n w' b L:=by
 obtain ⟨⟨sv,mr,h1,h2⟩,h3⟩:=h
 exact ⟨⟨sv,mr,h1.kept hk (fun k e s=>(hS k s).no_sig h1 e),h2⟩,h3⟩
theorem StAt.keptF {w w' : World} {b bs:Nat} {L:List Sym} {R:List Ru} {lv:Value} {vs:List Value} {S:Nat→Prop} (h:StAt w b bs L R lv vs) (hk:Kept S w w') (hS:∀ k,S k→FarB w k) (hb:¬ S b) (hr:∀ q,lv.ownBlock=some q→¬ S q):StAt w' b bs L R lv vs:=
 ⟨hk.at h.blk hb,sg_up (h.sig.keptF hk hS) hk.size,hk.row h.row (fun q e s=>hr q e s),h.own.kept hk (fun k s=>(hS k s).no_int),h.le,h.ok⟩
theorem MO.keptF {w w' : World} {m:Nat} {ro:Option Addr} {rc:Nat} {L:List Sym} {R:List Ru} {lv:Value} {vs:List Value} {S:Nat→Prop} (h:MO w m ro rc L R lv vs) (hk:Kept S w w') (hS:∀ k,S k→FarB w k) (hb:¬ S m) (hr:∀ q,lv.ownBlock=some q→¬ S q):MO w' m ro rc L R lv vs:=by
 obtain ⟨a1,a2,a3⟩:=h.rl
 refine ⟨hk.at h.blk hb,⟨hk.row a1 (fun q e s=>?_),fun q e=>Nat.lt_of_lt_of_le (a2 q e) hk.size,a3⟩,hk.row h.row (fun q e s=>hr q e s),h.own.kept hk (fun k s=>(hS k s).no_int),h.le,h.ok⟩
 obtain ⟨cu,hc⟩:=own_blk a1 e
 exact (hS q s).no_sym cu hc
structure Twin (w0 w:World) (L:List Sym) (R:List Ru) (bs b m:Nat) (ro:Option Addr) (rc:Nat) (lv:Value) (vs:List Value) (mv:Value) (ms:List Value):Prop where
 st:StAt w b bs L R lv vs
 mo:MO w m ro rc L R mv ms
 good:GoodR L R
 b0:w0.heap.size≤b
 m0:w0.heap.size≤m
 l0:∀ q,lv.ownBlock=some q→w0.heap.size≤q
 v0:∀ q,mv.ownBlock=some q→w0.heap.size≤q
 apart:∀ q,lv.ownBlock=some q→mv.ownBlock≠some q
 same:Same0 w0 w
theorem Twin.same' {w0 w w' : World} {L:List Sym} {R:List Ru} {bs b m:Nat} {ro:Option Addr} {rc:Nat} {lv:Value} {vs:List Value} {mv:Value} {ms:List Value} (h:Twin w0 w L R bs b m ro rc lv vs mv ms) (hk:Same0 w w'):Twin w0 w' L R bs b m ro rc lv vs mv ms:=
 ⟨h.st.same hk,h.mo.same hk,h.good,h.b0,h.m0,h.l0,h.v0,h.apart,h.same.trans' hk⟩
theorem Twin.bm {w0 w:World} {L:List Sym} {R:List Ru} {bs b m:Nat} {ro:Option Addr} {rc:Nat} {lv:Value} {vs:List Value} {mv:Value} {ms:List Value} (h:Twin w0 w L R bs b m ro rc lv vs mv ms):b≠m∧lv.ownBlock≠some m∧mv.ownBlock≠some b:=by
 refine ⟨fun e=>?_,fun e=>?_,fun e=>?_⟩
 ·subst e;have:=h.st.blk;rw [h.mo.blk] at this;cases this
 ·obtain ⟨c,hc⟩:=own_blk h.st.row e;rw [h.mo.blk] at hc;cases hc
 ·obtain ⟨c,hc⟩:=own_blk h.mo.row e;rw [h.st.blk] at hc;cases hc
theorem Twin.more {w0 w w1 w2:World} {L:List Sym} {R:List Ru} {bs b m:Nat} {ro:Option Addr} {rc:Nat} {lv:Value} {vs:List Value} {mv:Value} {ms:List Value} (h:Twin w0 w L R bs b m ro rc lv vs mv ms) {l:List Ru} (ha:Ans L R l []) {lv' : Value} {vs' : List Value} (s1:StAt w1 b bs L (R++l) lv' vs') (k1:Kept (StoB w b lv) w w1) (o1:∀ k,lv'.ownBlock=some k→lv.ownBlock=some k∨w.heap.size≤k) :
  MO w1 m ro rc L R mv ms∧Same0 w0 w1∧∀ (mv' : Value) (ms' : List Value),MO w2 m ro rc L (R++l) mv' ms' → (∀ q,mv'.ownBlock=some q→mv.ownBlock=some q∨w1.heap.size≤q)→Kept (fun q=>q=m∨mv.ownBlock=some q) w1 w2→Twin w0 w2 L (R++l) bs b m ro rc lv' vs' mv' ms' := by
 obtain ⟨e1,e2,e3⟩:=h.bm
 have F1:∀ k,StoB w b lv k→FarB w k:=fun k e=>by
  rcases e with e | e
  ·subst e;exact .inl ⟨_,h.st.blk⟩
  ·exact .inr (.inl (own_blk h.st.row e))
 have hmo:MO w1 m ro rc L R mv ms:=h.mo.keptF k1 F1 (fun e=>by
  rcases e with e | e
  ·exact e1 e.symm
  ·exact e2 e) (fun q e s=>by
  rcases s with s | s
  ·subst s;exact e3 e
  ·exact h.apart q s e)
 have hs1:Same0 w0 w1:=Kept.trans h.same k1 (fun i hi e=>by
  rcases e with e | e
  ·have:=h.b0;omega
  ·have:=h.l0 i e;omega)
 refine ⟨hmo,hs1,fun mv' ms' hm2 ho2 k2=>?_⟩
 have F2:∀ k,(k=m∨mv.ownBlock=some k)→FarB w1 k:=fun k e=>by
  rcases e with e | e
  ·subst e;exact .inr (.inr ⟨_,hmo.blk⟩)
  ·exact .inr (.inl (own_blk hmo.row e))
 have mlt:∀ q,mv.ownBlock=some q→q<w.heap.size:=fun q e=>by
  obtain ⟨c,hc⟩:=own_blk h.mo.row e;exact lt_of_at hc
 have llt:∀ q,lv'.ownBlock=some q→q<w1.heap.size:=fun q e=>by
  obtain ⟨c,hc⟩:=own_blk s1.row e;exact lt_of_at hc
 have ap1:∀ q,lv'.ownBlock=some q→mv.ownBlock≠some q:=fun q e f=>by
  rcases o1 q e with g | g
  ·exact h.apart q g f
  ·have:=mlt q f;omega
 refine ⟨s1.keptF k2 F2 (fun e=>by
  rcases e with e | e
  ·exact e1 e
  ·exact e3 e) (fun q e s=>by
  rcases s with s | s
  ·subst s
   obtain ⟨c,hc⟩:=own_blk s1.row e;rw [hmo.blk] at hc;cases hc
  ·exact ap1 q e s),hm2,h.good.add ha,h.b0,h.m0,fun q e=>?_,fun q e=>?_,fun q e f=>?_,Kept.trans hs1 k2 (fun i hi e=>by
  rcases e with e | e
  ·have:=h.m0;omega
  ·have:=h.v0 i e;omega)⟩
 ·rcases o1 q e with g | g
  ·exact h.l0 q g
  ·have:=h.same.size;omega
 ·rcases ho2 q e with g | g
  ·exact h.v0 q g
  ·have:=hs1.size;omega
 ·rcases ho2 q f with g | g
  ·exact ap1 q e g
  ·have:=llt q e;omega
theorem sg_nil8 (b:Nat) (w:World):(binOp .eql 25 (.pointer (some ⟨b,0,none⟩)) (.pointer none)).run Tryz.prog w=.ok (.bool false) w:=by kernel_rfl
theorem st_nil8 (b:Nat) (w:World):(binOp .eql 26 (.pointer (some ⟨b,0,none⟩)) (.pointer none)).run Tryz.prog w=.ok (.bool false) w:=by kernel_rfl
def StoPost (L:List Sym) (l:List Ru) (w:World) (e:Ending) (w' : World):Prop:=
 ∃ bs b m ro rc lv vs mv ms R,e=.returned (.tuple #[.pointer (some ⟨bs,0,none⟩),.pointer (some ⟨b,0,none⟩),.pointer (some ⟨m,0,none⟩)])∧Twin w w' L R bs b m ro rc lv vs mv ms∧StoredR L l [] R
theorem rsat_part {w:World} {lb loff:Nat} {l:List Ru} (h:RsAt w (some ⟨lb,loff,none⟩) l) {j:Nat} (hj:j<l.length):RsAt w (some ⟨lb,loff+j * 2,none⟩) [l[j]]:=by
 obtain ⟨b,off,e,hb,hc⟩:=h.get hj
 cases e
 refine .inr ⟨lb,loff+j * 2,rfl,hb,fun i hi=>?_⟩
 obtain rfl:i=0:=by simp at hi;omega
 simpa using hc
theorem twin_new {w0 w2:World} {L:List Sym} {bs b:Nat} {rv:Value} (hs:StAt w2 b bs L [] (.slice none 0 0) []) (hr:Rl w2.heap.size w2 rv L) (hb:w0.heap.size≤b) (hk:Same0 w0 w2):∃ ro rc,rv=.slice ro L.length rc∧Twin w0 (w2.alloc (.cells #[rv,.slice none 0 0] 31)) L [] bs b w2.heap.size ro rc (.slice none 0 0) [] (.slice none 0 0) []:=by
 obtain ⟨ro,rc,rfl⟩:=row_shape hr.1
 have ka:Same0 w2 (w2.alloc (.cells #[.slice ro L.length rc,.slice none 0 0] 31)):=(Kept.refl _ _).alloc _
 refine ⟨ro,rc,rfl,hs.same ka,⟨heap_alloc_new _ _,rl_up (hr.same ka) ka.size,World.ownsRow_nil _ _ _ _,⟨rfl,fun i hi=>absurd hi (by simp)⟩,by simp,fun x hx=>by simp at hx⟩,GoodR.nil L,hb,hk.size,(fun q e=>by cases e),(fun q e=>by cases e),(fun q e=>by cases e),hk.trans' ka⟩
set_option maxHeartbeats 16000000 in
theorem stored_any {w:World} {ao:Option Addr} {len cap:Nat} {xs:List Sym} (hx:SymsAt w ao len xs) (hm:len≤maxLen) {lo:Option Addr} {lc:Nat} {l:List Ru} (hl:RsAt w lo l) (hll:l.length≤140737488355328) (hlc:l.length≤lc) :
  Calls Tryz.prog 7 #[.slice ao len cap,.slice lo l.length lc] w (StoPost (madeL xs) l w):=by
 have hn1:=sg_nil8
 have hn2:=st_nil8
 have CM:=made_any ao len cap xs w hx hm
 have HL:Hid (∀ ww,Same0 w ww→RsAt ww lo l):=fun ww hk=>hl.same hk
 generalize madeL xs=L at *
 clear hx hl hm
 go_enter Tryz.func7,Tryz.ntmps7
 go_upto_region 4 with (first | (go_at_call 31;refine CM.mono ?_;rintro e w1 ⟨bs,rv,rfl,hsg,hrl,k1⟩))
 have CN:=snew_any hsg
 go_upto_region 5 with (first | (go_at_call 32;refine CN.mono ?_;rintro e w2 ⟨rfl,hst,k2⟩))
 obtain ⟨ro,rc,rfl,hT⟩:=twin_new hst (rl_up (hrl.same k2) k2.size) k1.size (k1.trans' k2)
 obtain ⟨b,hb⟩:∃ b,b=w1.heap.size:=⟨_,rfl⟩
 obtain ⟨m,hmm⟩:∃ m,m=w2.heap.size:=⟨_,rfl⟩
 have T0:Hid (Twin w (w2.alloc (.cells #[.slice ro L.length rc,.slice none 0 0] 31)) L [] bs b m ro rc (.slice none 0 0) [] (.slice none 0 0) []):=by rw [hb,hmm];exact hT
 have HMM:Hid (w2.heap.size=m):=hmm.symm
 rw [← hb]
 clear hT hst hrl hsg CN CM hb hmm
 go_wp2_with fail
 rw [HMM.out]
 go_loopw [11] (fun i wr=>∃ (j:Nat) (R:List Ru) (lv:Value) (vs:List Value) (mv:Value) (ms:List Value),j≤l.length∧i=.int .i64 (j:Int)∧Hid (Twin w wr L R bs b m ro rc lv vs mv ms)∧Hid (StoredR L (l.take j) [] R)) (fun i _=>l.length-(intOf i).toNat)
 case atStart=>exact ⟨0,[],_,_,_,_,Nat.zero_le _,rfl,T0,rfl⟩
 case round=>
  clear T0 k1 k2 HMM
  obtain ⟨j,R,lv,vs,mv,ms,hj,rfl,hT,hR⟩:=hrel
  by_cases hlt:j<l.length
  ·obtain ⟨lb,loff,rfl,_,_⟩:=(HL.out wr hT.out.same).get hlt
   have hj1:IntKind.i64.wrap ((j:Int)+1)=(j:Int)+1:=iwrap (by omega) (by omega)
   have i1:(0:Int)≤(j:Int):=by omega
   have i2:(j:Int)+1≤(lc:Int):=by omega
   have i3:(j:Int)≤(j:Int)+1:=by omega
   have hcj:¬ lc=j:=by omega
   have CA:=add_rules (l:=[l[j]]) (lc:=lc-j) hT.out.st (rsat_part (HL.out wr hT.out.same) hlt) (by simp) (by simp;omega)
   have CAH:Hid (Calls Tryz.prog 33 #[.pointer (some ⟨b,0,none⟩),.slice (some ⟨lb,loff+j * 2,none⟩) 1 (lc-j)] wr (AddPost L R [l[j]] b bs lv wr)):=CA
   have hsn:Hid (l.take (j+1)=l.take j ++ [l[j]]):=by show _=_;rw [List.take_add_one,List.getElem?_eq_getElem hlt];rfl
   by_cases hA:Ans L R [l[j]] []
   ·have hfit:=hA.fit hT.out.st.le
    have hs2:Hid (StoredR L (l.take (j+1)) [] (R ++ [l[j]])):=by show StoredR _ _ _ _;rw [hsn.out];exact hR.out.snoc (.inl ⟨hA,rfl⟩)
    have CA2:Hid (Calls Tryz.prog 33 #[.pointer (some ⟨b,0,none⟩),.slice (some ⟨lb,loff+j * 2,none⟩) 1 (lc-j)] wr fun e w1=>∃ lv' vs', e=.returned .nilIface∧Hid (StAt w1 b bs L (R ++ [l[j]]) lv' vs' ∧ Kept (StoB wr b lv) wr w1∧∀ k,lv'.ownBlock=some k→lv.ownBlock=some k∨wr.heap.size≤k)):=CAH.out.mono (fun e w1 ⟨ws,v,e1,ha,hv,_,_,hy⟩=>by
     obtain rfl:=ha.uniq hA
     obtain rfl:v=.nilIface:=hv
     obtain ⟨lv', vs', a1,a2,a3⟩:=hy rfl
     exact ⟨lv', vs', e1,a1,a2,a3⟩)
    have CB:Hid (∀ w1 lv' vs', StAt w1 b bs L (R ++ [l[j]]) lv' vs' ∧ Kept (StoB wr b lv) wr w1∧(∀ k,lv'.ownBlock=some k→lv.ownBlock=some k∨wr.heap.size≤k)→Calls Tryz.prog 34 #[.pointer (some ⟨m,0,none⟩),.slice (some ⟨lb,loff+j * 2,none⟩) 1 (lc-j)] w1 fun e w2=>∃ mv' ms', e=.returned (.slice none 0 0)∧Hid (Twin w w2 L (R ++ [l[j]]) bs b m ro rc lv' vs' mv' ms')):=fun w1 lv' vs' ⟨a1,a2,a3⟩=>by
     obtain ⟨hmo,hs1,hmore⟩:=hT.out.more (w2:=w1) hA a1 a2 a3
     refine (radd_yes (l:=[l[j]]) (lc:=lc-j) hmo (rsat_part (HL.out w1 hs1) hlt) (by simp) (fun e=>by cases e) hA hfit.2 (by simpa using hfit.1) (fun ww hk=>rsat_part (HL.out ww (Kept.trans hs1 hk (fun i hi e=>by
      rcases e with e | e
      ·have:=hT.out.m0;omega
      ·have:=hT.out.v0 i e;omega))) hlt)).mono ?_
     rintro e w2 ⟨mv', ms', rfl,m1,m2,m3⟩
     obtain ⟨_,_,hmore2⟩:=hT.out.more (w2:=w2) hA a1 a2 a3
     exact ⟨mv', ms', rfl,hmore2 mv' ms' m1 m2 m3⟩
    have CS:=fun ww=>same_flt (w:=ww) (er:=.nilIface) (lv:=.slice none 0 0) (ws:=[]) rfl ⟨none,0,rfl,.inl rfl⟩ (by simp)
    have CSH:Hid (∀ ww,Calls Tryz.prog 12 #[.nilIface,.slice none 0 0] ww fun e w' => e=.returned (.bool true)∧Same0 ww w'):=CS
    have D1:=CA2.out
    clear CA CAH CA2 CS hfit hT hR hsn
    go_upto_region 12 with (first | (go_at_call 33;refine D1.mono ?_;rintro e w4 ⟨lv', vs', rfl,h4⟩))
    have D2:=CB.out w4 lv' vs' h4.out
    go_upto_region 13 with (first | (go_at_call 34;refine D2.mono ?_;rintro e w5 ⟨mv', ms', rfl,h5⟩))
    have D3:=CSH.out w5
    go_wp2_with (first | (go_at_call 12;refine D3.mono ?_;rintro e w6 ⟨rfl,k6⟩))
    exact ⟨⟨j+1,R ++ [l[j]],lv', vs', mv', ms', by omega,by go_num,h5.out.same' k6,hs2⟩,by simp [intOf];omega⟩
   ·have hs2:Hid (StoredR L (l.take (j+1)) [] R):=by show StoredR _ _ _ _;rw [hsn.out];exact hR.out.snoc (.inr ⟨hA,rfl⟩)
    have CA2:Hid (Calls Tryz.prog 33 #[.pointer (some ⟨b,0,none⟩),.slice (some ⟨lb,loff+j * 2,none⟩) 1 (lc-j)] wr fun e w1=>∃ ws k,e=.returned (.iface 98 (.pointer (some ⟨k,0,none⟩)))∧Hid (Ans L R [l[j]] ws∧ws≠[]∧ws.length≤2∧FltAt w1 ws (.iface 98 (.pointer (some ⟨k,0,none⟩))))∧Same0 wr w1):=CAH.out.mono (fun e w1 ⟨ws,v,e1,ha,hv,h2,hno,_⟩=>by
     have hne:ws≠[]:=fun e=>hA (e ▸ ha)
     rcases ha.flt hv with ⟨e,_⟩ | ⟨_,k,rfl⟩
     ·exact absurd e hne
     ·exact ⟨ws,k,e1,⟨ha,hne,h2,hv⟩,hno hne⟩)
    have CB:Hid (∀ w1 ws,Same0 wr w1→Ans L R [l[j]] ws→ws≠[]→Calls Tryz.prog 34 #[.pointer (some ⟨m,0,none⟩),.slice (some ⟨lb,loff+j * 2,none⟩) 1 (lc-j)] w1 fun e w2=>∃ v,e=.returned v∧Hid (WrsAt w2 v ws)∧Same0 w1 w2):=fun w1 ws k1 ha hne=>radd7_no (l:=[l[j]]) (lc:=lc-j) (hT.out.same' k1).mo (rsat_part (HL.out w1 (hT.out.same' k1).same) hlt) (by simp) (fun e=>by cases e) ha hne
    have HT2:Hid (∀ ww,Same0 wr ww→Twin w ww L R bs b m ro rc lv vs mv ms):=fun ww hk=>hT.out.same' hk
    have D1:=CA2.out
    clear CA CAH CA2 hT hR hsn
    go_upto_region 12 with (first | (go_at_call 33;refine D1.mono ?_;rintro e w4 ⟨ws,k,rfl,h4,k4⟩))
    obtain ⟨q1,q2,q3,q4⟩:=h4.out
    have D2:=CB.out w4 ws k4 q1 q2
    go_upto_region 13 with (first | (go_at_call 34;refine D2.mono ?_;rintro e w5 ⟨v5,rfl,h5,k5⟩))
    have D3:=same_flt (FltAt.same k5 q4) h5.out q3
    clear q1 q2 q3 q4 D1 D2
    go_wp2_with (first | (go_at_call 12;refine D3.mono ?_;rintro e w6 ⟨rfl,k6⟩))
    exact ⟨⟨j+1,R,lv,vs,mv,ms,by omega,by go_num,HT2.out _ ((k4.trans' k5).trans' k6),hs2⟩,by simp [intOf];omega⟩
  ·obtain rfl:j=l.length:=by omega
   have hR2:Hid (StoredR L l [] R):=by have:=hR.out;rw [List.take_length] at this;exact this
   clear hR
   go_wp2_with fail
   go_ret3
   exact ⟨bs,b,m,ro,rc,lv,vs,mv,ms,R,rfl,hT.out,hR2.out⟩
abbrev L6:List Sym:=[⟨⟨#[122]⟩,0,false⟩,⟨⟨#[115]⟩,1,false⟩,⟨⟨#[97]⟩,0,false⟩,⟨⟨#[97,100,100]⟩,2,true⟩,⟨⟨#[102]⟩,3,true⟩,⟨⟨#[104]⟩,0,true⟩]
theorem nm8_z:nameB ⟨#[122]⟩=true:=by decide +kernel
theorem nm8_s:nameB ⟨#[115]⟩=true:=by decide +kernel
theorem nm8_a:nameB ⟨#[97]⟩=true:=by decide +kernel
theorem nm8_add:nameB ⟨#[97,100,100]⟩=true:=by decide +kernel
theorem nm8_f:nameB ⟨#[102]⟩=true:=by decide +kernel
theorem nm8_h:nameB ⟨#[104]⟩=true:=by decide +kernel
theorem madeL_aw8:madeL L6=L6:=by
 simp [madeL,addL,addErr,nm8_z,nm8_s,nm8_a,nm8_add,nm8_f,nm8_h,findI]
abbrev ru8a:Ru:=([3,0, -1],[-1])
abbrev ru8b:Ru:=([3,1, -1, -2],[1,3, -1, -2])
theorem aw8_a:Ans L6 [] [ru8a] []:=Ans.of_all (by decide +kernel)
theorem aw8_b:Ans L6 [ru8a] [ru8b] []:=Ans.of_all (by decide +kernel)
theorem aw8_R {R:List Ru} (h:StoredR L6 [ru8a,ru8b] [] R):R=[ru8a,ru8b]:=by
 rcases h with ⟨_,h⟩ | ⟨h,_⟩
 ·rcases h with ⟨_,h⟩ | ⟨h,_⟩
  ·exact h
  ·exact absurd aw8_b h
 ·exact absurd aw8_a h
def tree8 (n:Nat):Tr (n+1+1):=(2,0,[0],[(0,((1,0,[],[]):Int × Int × List Int × List (Int × Tr n))),(1,((1,1,[],[]):Int × Int × List Int × List (Int × Tr n)))])
theorem aw8_grow (n:Nat):growF L6 (n+1+1) (rootP L6 3) (rootR L6 [ru8a,ru8b] 3)=.ok (tree8 n):=by rfl
theorem aw8_tree:treeF L6 [ru8a,ru8b] 3=.ok (tree8 1999):=aw8_grow 1999
theorem aw8_small (n:Nat):SmT (n+1+1) (tree8 n):=by
 refine ⟨by simp,fun i hi=>?_⟩
 have hi' : i<2:=hi
 match i,hi' with
 | 0,_=>exact ⟨by simp,fun i hi=>absurd hi (by simp)⟩
 | 1,_=>exact ⟨by simp,fun i hi=>absurd hi (by simp)⟩
theorem aw8_lit (w:World) (n:Nat):CsB (fun _=>True) ((w.alloc (.cells #[.int .i64 0] 3)).alloc (.cells #[.int .i64 0,.int .i64 1,.int .i64 0,.slice none 0 0,.slice none 0 0,.int .i64 1,.int .i64 1,.int .i64 1,.slice none 0 0,.slice none 0 0] 89)) (n+1+1) (.agg #[.int .i64 2,.int .i64 0,.slice (some ⟨w.heap.size,0,none⟩) 1 1,.slice (some ⟨w.heap.size+1,0,none⟩) 2 2]) (tree8 n):=by
 have ka:Same0 (w.alloc (.cells #[.int .i64 0] 3)) ((w.alloc (.cells #[.int .i64 0] 3)).alloc (.cells #[.int .i64 0,.int .i64 1,.int .i64 0,.slice none 0 0,.slice none 0 0,.int .i64 1,.int .i64 1,.int .i64 1,.slice none 0 0,.slice none 0 0] 89)):=(Kept.refl _ _).alloc _
 have hb:=heap_al_al w (.cells #[.int .i64 0] 3) (.cells #[.int .i64 0,.int .i64 1,.int .i64 0,.slice none 0 0,.slice none 0 0,.int .i64 1,.int .i64 1,.int .i64 1,.slice none 0 0,.slice none 0 0] 89)
 refine ⟨_,1,_,2,rfl,(ints_arg w [0] 3 (by simp) rfl).same ka,.inr (fun _ _=>trivial),(fun e=>by cases e),Nat.le_refl _,.inr ⟨_,0,rfl,trivial,lt_of_at hb,fun i hi=>?_⟩⟩
 have hi' : i<2:=hi
 match i,hi' with
 | 0,_=>exact ⟨_,_,_,_,cellAt hb 0,cellAt hb 1,cellAt hb 2,cellAt hb 3,cellAt hb 4,leaf_cs _ _ _ _ _⟩
 | 1,_=>exact ⟨_,_,_,_,cellAt hb 5,cellAt hb 6,cellAt hb 7,cellAt hb 8,cellAt hb 9,leaf_cs _ _ _ _ _⟩
theorem syms_aw8 (w:World) (T:TypeId):SymsAt (w.alloc (.cells #[.string ⟨#[122]⟩,.int .i64 0,.bool false,.string ⟨#[115]⟩,.int .i64 1,.bool false,.string ⟨#[97]⟩,.int .i64 0,.bool false,.string ⟨#[97,100,100]⟩,.int .i64 2,.bool true,.string ⟨#[102]⟩,.int .i64 3,.bool true,.string ⟨#[104]⟩,.int .i64 0,.bool true] T)) (some ⟨w.heap.size,0,none⟩) 6 L6:=by
 refine ⟨rfl,.inr ⟨_,_,rfl,by simp,fun i hi=>?_⟩,?_⟩
 ·have hi' : i<6:=by simpa using hi
  rw [cellAt (heap_alloc_new w _),cellAt (heap_alloc_new w _),cellAt (heap_alloc_new w _)]
  match i,hi' with
  | 0,_=>exact ⟨rfl,rfl,rfl⟩
  | 1,_=>exact ⟨rfl,rfl,rfl⟩
  | 2,_=>exact ⟨rfl,rfl,rfl⟩
  | 3,_=>exact ⟨rfl,rfl,rfl⟩
  | 4,_=>exact ⟨rfl,rfl,rfl⟩
  | 5,_=>exact ⟨rfl,rfl,rfl⟩
 ·intro x hx
  simp at hx
  rcases hx with rfl | rfl | rfl | rfl | rfl | rfl <;> exact ⟨by decide +kernel,by decide +kernel⟩
theorem SymsAt.same8 {w w' : World} {ao:Option Addr} {len:Nat} {xs:List Sym} (h:SymsAt w ao len xs) (hk:Same0 w w'):SymsAt w' ao len xs:=by
 obtain ⟨h1,h2,h3⟩:=h
 refine ⟨h1,h2.imp id ?_,h3⟩
 rintro ⟨b,off,e,hb,hc⟩
 refine ⟨b,off,e,Nat.lt_of_lt_of_le hb hk.size,fun i hi=>?_⟩
 obtain ⟨c1,c2,c3⟩:=hc i hi
 exact ⟨(hk.cell (p:=⟨b,_,none⟩) hb (fun f=>f)).trans c1,(hk.cell (p:=⟨b,_,none⟩) hb (fun f=>f)).trans c2,(hk.cell (p:=⟨b,_,none⟩) hb (fun f=>f)).trans c3⟩
set_option maxHeartbeats 1000000 in
theorem plain8_any (w:World):Calls Tryz.prog 28 #[] w fun e w' => ∃ g g', e=.returned (.tuple #[.slice (some ⟨g,0,none⟩) 6 6,.slice (some ⟨g', 0,none⟩) 2 2])∧SymsAt w' (some ⟨g,0,none⟩) 6 L6∧RsAt w' (some ⟨g', 0,none⟩) [ru8a,ru8b]∧Same0 w w' := by
 have S:=syms_aw8 w 129
 have K:Same0 w (w.alloc (.cells #[.string ⟨#[122]⟩,.int .i64 0,.bool false,.string ⟨#[115]⟩,.int .i64 1,.bool false,.string ⟨#[97]⟩,.int .i64 0,.bool false,.string ⟨#[97,100,100]⟩,.int .i64 2,.bool true,.string ⟨#[102]⟩,.int .i64 3,.bool true,.string ⟨#[104]⟩,.int .i64 0,.bool true] 129)):=(Kept.refl _ w).alloc _
 have RR:=rs_two (w.alloc (.cells #[.string ⟨#[122]⟩,.int .i64 0,.bool false,.string ⟨#[115]⟩,.int .i64 1,.bool false,.string ⟨#[97]⟩,.int .i64 0,.bool false,.string ⟨#[97,100,100]⟩,.int .i64 2,.bool true,.string ⟨#[102]⟩,.int .i64 3,.bool true,.string ⟨#[104]⟩,.int .i64 0,.bool true] 129)) [3,0, -1] [-1] [3,1, -1, -2] [1,3, -1, -2] 3 3 3 3 68 (by decide) (by decide) (by decide) (by decide) rfl rfl rfl rfl rfl
 have HH:Hid _:=RR
 have HS:Hid _:=S
 clear RR S
 go_enter Tryz.func28,Tryz.ntmps28
 go_wp2
 go_ret2
 obtain ⟨r1,r2⟩:=HH.out
 simp only [World.size_alloc] at r1 r2
 exact ⟨_,_,rfl,SymsAt.same8 HS.out r2,r1,K.trans' r2⟩
theorem aw8_err (w:World):(binOp .eql 37 .nilIface .nilIface).run Tryz.prog w=.ok (.bool true) w:=by kernel_rfl
set_option maxHeartbeats 16000000 in
theorem awake8_any (w:World):Calls Tryz.prog 6 #[] w fun e w' => e=.returned (.bool true)∧Same0 w w' := by
 have hnn:=aw8_err
 have hpn:=ptr_nil
 have CP:=plain8_any w
 go_enter Tryz.func6,Tryz.ntmps6
 go_upto_region 2 with (first | (go_at_call 28;refine CP.mono ?_;rintro e w0 ⟨g,g', rfl,hsy,hru,K0⟩))
 have CS:=stored_any (cap:=6) (lc:=2) hsy (by decide) hru (by decide) (by decide)
 rw [madeL_aw8] at CS
 clear CP hsy hru
 go_upto_region 3 with (first | (go_at_call 7;refine CS.mono ?_;rintro e w1 ⟨bs,b,m,ro,rc,lv,vs,mv,ms,R,rfl,hT,hR⟩))
 obtain rfl:=aw8_R hR
 have K1:Same0 w w1:=K0.trans' hT.same
 have hst:=hT.st
 clear CS hR K0 hT
 have HST:Hid (∀ ww,Same0 w1 ww→StAt ww b bs L6 [ru8a,ru8b] lv vs):=fun ww hk=>hst.same hk
 have B1:Calls Tryz.prog 8 #[.pointer (some ⟨b,0,none⟩),.int .i64 3] w1 fun e w' => ∃ tk tr tpo tpl tpc tko tkl tkc,e=.returned (.tuple #[.agg #[.int .i64 tk,.int .i64 tr,.slice tpo tpl tpc,.slice tko tkl tkc],.nilIface])∧Hid (CsB (fun b=>w1.heap.size≤b) w' 2001 (.agg #[.int .i64 tk,.int .i64 tr,.slice tpo tpl tpc,.slice tko tkl tkc]) (tree8 1999))∧Same0 w1 w' := by
  refine (build_any hst 3).mono ?_
  rintro e w' ⟨hk,h⟩
  rw [if_pos (show defB L6 3=true by decide)] at h
  have e3:(3:Int).toNat=3:=rfl
  rw [e3,aw8_tree] at h
  obtain ⟨v,rfl,hc⟩:=h
  obtain ⟨tk,tr,tpo,tpl,tpc,tko,tkl,tkc,rfl⟩:=hc.shape
  exact ⟨tk,tr,tpo,tpl,tpc,tko,tkl,tkc,rfl,hc,hk⟩
 clear hst
 go_upto_region 6 with (first | (go_at_call 8;refine B1.mono ?_;rintro e w2 ⟨tk,tr,tpo,tpl,tpc,tko,tkl,tkc,rfl,hcs,k2⟩))
 obtain ⟨w3,hw3⟩:∃ w3,w3=w2.alloc (.cells #[.int .i64 tk,.int .i64 tr,.slice tpo tpl tpc,.slice tko tkl tkc] 35):=⟨_,rfl⟩
 have k3:Same0 w2 w3:=by rw [hw3];exact (Kept.refl _ _).alloc _
 have HC:Hid (∀ ww,Same0 w3 ww→ww.cell? ⟨w2.heap.size,0,none⟩=some (.int .i64 tk)∧ww.cell? ⟨w2.heap.size,1,none⟩=some (.int .i64 tr)∧ww.cell? ⟨w2.heap.size,2,none⟩=some (.slice tpo tpl tpc)∧ww.cell? ⟨w2.heap.size,3,none⟩=some (.slice tko tkl tkc)):=fun ww hk=>by
  have h0:w3.heap[w2.heap.size]? = some (.cells #[.int .i64 tk,.int .i64 tr,.slice tpo tpl tpc,.slice tko tkl tkc] 35 (0,0)):=by rw [hw3];exact heap_alloc_new w2 _
  have h1:=hk.at0 h0
  exact ⟨cellAt h1 0,cellAt h1 1,cellAt h1 2,cellAt h1 3⟩
 have HCS:Hid (∀ ww,Same0 w3 ww→CsB (fun b=>w1.heap.size≤b) ww 2001 (.agg #[.int .i64 tk,.int .i64 tr,.slice tpo tpl tpc,.slice tko tkl tkc]) (tree8 1999)):=fun ww hk=>(hcs.out.same k3).same hk
 have K3:Same0 w1 w3:=k2.trans' k3
 rw [← hw3]
 clear hw3 hcs B1 k2 k3
 have B2:Calls Tryz.prog 8 #[.pointer (some ⟨b,0,none⟩),.int .i64 0] w3 fun e w' => ∃ k,e=.returned (.tuple #[zeroC,.iface 98 (.pointer (some ⟨k,0,none⟩))])∧Hid (FltAt w' [(80,0)] (.iface 98 (.pointer (some ⟨k,0,none⟩))))∧Same0 w3 w' := by
  refine (build_any (HST.out w3 K3) 0).mono ?_
  rintro e w' ⟨hk,h⟩
  rw [if_neg (show ¬ defB L6 0=true by decide)] at h
  obtain ⟨v,rfl,hf⟩:=h
  obtain ⟨k,rfl⟩:∃ k,v=.iface 98 (.pointer (some ⟨k,0,none⟩)):=by
   rcases hf with ⟨q,_⟩ | ⟨_,k,u,e1,_⟩
   ·omega
   ·exact ⟨k,e1⟩
  exact ⟨k,rfl,hf,hk⟩
 go_upto_region 7 with (first | (go_at_call 8;refine B2.mono ?_;rintro e w4 ⟨kf,rfl,hf,k4⟩))
 obtain ⟨w5,hw5⟩:∃ w5,w5=w4.alloc zeroCs:=⟨_,rfl⟩
 have k5:Same0 w4 w5:=by rw [hw5];exact (Kept.refl _ _).alloc _
 have K5:Same0 w3 w5:=k4.trans' k5
 have HF:Hid (∀ ww,Same0 w5 ww→FltAt ww [(80,0)] (.iface 98 (.pointer (some ⟨kf,0,none⟩)))):=fun ww hk=>FltAt.same hk (FltAt.same k5 hf.out)
 rw [← hw5]
 clear hw5 hf B2 k4 k5
 obtain ⟨c0,c1,c2,c3⟩:=HC.out w5 K5
 obtain ⟨w6,hw6⟩:∃ w6,w6=w5.alloc (.cells #[.int .i64 3,.int .i64 3,.int .i64 0,.int .i64 0,.int .i64 2] 3):=⟨_,rfl⟩
 have k6:Same0 w5 w6:=by rw [hw6];exact (Kept.refl _ _).alloc _
 have B3:Calls Tryz.prog 29 #[.pointer (some ⟨bs,0,none⟩),.agg #[.int .i64 tk,.int .i64 tr,.slice tpo tpl tpc,.slice tko tkl tkc],.slice (some ⟨w5.heap.size,0,none⟩) 5 5,.int .i64 0] w6 fun e w' => ∃ po pc,e=.returned (.tuple #[.agg #[.int .i64 3,.int .i64 0,.slice po 1 pc,.int .i64 1],.int .i64 0])∧Hid (IntsAt w' po [0])∧Same0 w6 w' :=
  walk_demand (T:=[3,3,0,0,2]) (tc:=5) (a:=0) (q:=1) (HST.out w6 (K3.trans' (K5.trans' k6))).sig (HCS.out w6 (K5.trans' k6)) (by rw [hw6];exact ints_arg w5 [3,3,0,0,2] 3 (by decide) rfl) (by decide +kernel) (by decide) (by decide) (by decide +kernel) (by decide +kernel) (by decide +kernel)
 have K6:Same0 w3 w6:=K5.trans' k6
 have K56:Hid (Same0 w5 w6):=k6
 have HW6:Hid (w5.alloc (.cells #[.int .i64 3,.int .i64 3,.int .i64 0,.int .i64 0,.int .i64 2] 3)=w6):=hw6.symm
 have B3' : Calls Tryz.prog 29 #[.pointer (some ⟨bs,0,none⟩),.agg #[.int .i64 tk,.int .i64 tr,.slice tpo tpl tpc,.slice tko tkl tkc],.slice (some ⟨w5.heap.size,0,none⟩) 5 5,.int .i64 0] (w5.alloc (.cells #[.int .i64 3,.int .i64 3,.int .i64 0,.int .i64 0,.int .i64 2] 3)) fun e w' => ∃ po pc,e=.returned (.tuple #[.agg #[.int .i64 3,.int .i64 0,.slice po 1 pc,.int .i64 1],.int .i64 0])∧Hid (IntsAt w' po [0])∧Same0 w6 w' := by rw [HW6.out];exact B3
 clear hw6 k6 B3
 go_upto_region 8 with (first | (go_at_call 29;refine B3'.mono ?_;rintro e w7 ⟨po,pc,rfl,hpo,k7⟩))
 clear c0 c1 c2 c3 B3' HW6
 obtain ⟨w8,hw8⟩:∃ w8,w8=w7.alloc (.cells #[.int .i64 3,.int .i64 0,.slice po 1 pc,.int .i64 1] 85):=⟨_,rfl⟩
 have k8:Same0 w7 w8:=by rw [hw8];exact (Kept.refl _ _).alloc _
 have HFN:Hid (∀ ww,Same0 w8 ww→(ww.cell? ⟨w7.heap.size,0,none⟩=some (.int .i64 3)∧ww.cell? ⟨w7.heap.size,1,none⟩=some (.int .i64 0)∧ww.cell? ⟨w7.heap.size,2,none⟩=some (.slice po 1 pc)∧ww.cell? ⟨w7.heap.size,3,none⟩=some (.int .i64 1))∧IntsAt ww po [0]):=fun ww hk=>by
  have h0:w8.heap[w7.heap.size]? = some (.cells #[.int .i64 3,.int .i64 0,.slice po 1 pc,.int .i64 1] 85 (0,0)):=by rw [hw8];exact heap_alloc_new w7 _
  have h1:=hk.at0 h0
  exact ⟨⟨cellAt h1 0,cellAt h1 1,cellAt h1 2,cellAt h1 3⟩,(hpo.out.same k8).same hk⟩
 have K8:Same0 w3 w8:=(K6.trans' k7).trans' k8
 have K58:Same0 w5 w8:=by
  have:Same0 w5 w6:=K56.out
  exact (this.trans' k7).trans' k8
 rw [← hw8]
 clear hw8 hpo k7 k8 K6
 obtain ⟨c0,c1,c2,c3⟩:=HC.out w8 K8
 have ka:Same0 w8 ((w8.alloc (.cells #[.int .i64 0] 3)).alloc (.cells #[.int .i64 0,.int .i64 1,.int .i64 0,.slice none 0 0,.slice none 0 0,.int .i64 1,.int .i64 1,.int .i64 1,.slice none 0 0,.slice none 0 0] 89)):=((Kept.refl _ _).alloc _).alloc _
 have B4:=csame_any 2001 _ _ _ (tree8 1999) _ _ (HCS.out _ (K8.trans' ka)) (aw8_lit w8 1999) (aw8_small 1999)
 go_upto_region 9 with (first | (go_at_call 10;refine B4.mono ?_;rintro e w11 ⟨rfl,k11⟩))
 have K11:Same0 w8 w11:=ka.trans' k11
 clear c0 c1 c2 c3 B4 ka k11
 obtain ⟨⟨d0,d1,d2,d3⟩,_⟩:=HFN.out w11 K11
 have kb:Same0 w11 (w11.alloc (.cells #[.int .i64 0] 3)):=(Kept.refl _ _).alloc _
 have B5:=fsame_any (k:=3) (r:=0) (nd:=1) (p:=[0]) (pc:=pc) (pc' := 1) (HFN.out _ (K11.trans' kb)).2 (ints_new w11 [0] 3 rfl) (by decide)
 go_upto_region 10 with (first | (go_at_call 30;refine B5.mono ?_;rintro e w13 ⟨rfl,k13⟩))
 have K13:Same0 w8 w13:=K11.trans' (kb.trans' k13)
 clear d0 d1 d2 d3 B5 kb k13
 have kx:Same0 w13 (w13.alloc (.cells #[.int .i64 80,.int .i64 0] 92)):=(Kept.refl _ _).alloc _
 have B6:=same_flt (HF.out _ ((K58.trans' K13).trans' kx)) (wrs_new w13 [(80,0)] _ 92 rfl (fun i hi=>by have hi' : i<1:=hi;match i,hi' with | 0,_=>exact ⟨rfl,rfl⟩) 1 rfl) (by decide)
 have KF:Hid (∀ ww,Same0 (w13.alloc (.cells #[.int .i64 80,.int .i64 0] 92)) ww→Same0 w ww):=fun ww hk=>((((K1.trans' K3).trans' K8).trans' K13).trans' kx).trans' hk
 clear K1 K3 K8 K13 K58 K5
 go_wp2_with (first | (go_at_call 12;refine B6.mono ?_;rintro e w14 ⟨rfl,k14⟩))
 go_ret
 exact ⟨rfl,KF.out _ k14⟩
end Go.Proofs.YtoajbpmgoklflaaGreat
