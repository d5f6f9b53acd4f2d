import Derived.Test.YtmjgnfkbnofjoaaGreatDoorSW14
import Derived.Test.YtmjgnfkbnofjoaaGreatDoorSW05
import Derived.Test.YtmjgnfkbnofjoaaGreatDoorSW03
import Derived.Deep.LoopGhost
import Derived.Test.YtmjgnfkbnofjoaaGreatDoorSW04
namespace Go.Proofs.YtmjgnfkbnofjoaaGreatDoor
set_option maxRecDepth 100000
set_option linter.unusedVariables false
open Go.RowKit
attribute [local go_sem ↓] Go.wp_at_zero Go.wp_at_succ
set_option maxHeartbeats 4000000 in
theorem rfree_any {w:World} {ao bo:Option Addr} {ac bc:Nat} {x:Ru} (h1:IntsAt w ao x.1) (h2:IntsAt w bo x.2) (m1:x.1.length≤2000) (m2:x.2.length≤2000) (b1:∀ n∈x.1, -99≤n) (b2:∀ n∈x.2, -99≤n) :
  Calls Tryz.prog 192 #[.agg #[.slice ao x.1.length ac,.slice bo x.2.length bc]] w fun e w' => e=.returned (.bool (!x.2.all (fun n=>!freeB x.1 n)))∧Same0 w w' := by
 rw [← free_eq b1 b2]
 have W0:Same0 w (w.alloc (.cells #[.slice ao x.1.length ac,.slice bo x.2.length bc] 90)):=(Kept.refl _ w).alloc _
 have hb:=heap_alloc_new w (.cells #[.slice ao x.1.length ac,.slice bo x.2.length bc] 90)
 have HB:Hid (∀ ww,Same0 (w.alloc (.cells #[.slice ao x.1.length ac,.slice bo x.2.length bc] 90)) ww→ww.cell? ⟨w.heap.size,0,none⟩=some (.slice ao x.1.length ac)∧ww.cell? ⟨w.heap.size,1,none⟩=some (.slice bo x.2.length bc)):=fun ww hk=>⟨cellAt (hk.at0 hb) 0,cellAt (hk.at0 hb) 1⟩
 have l1:(varsL x.1).length≤x.1.length:=by have:=vs_len [] x.1;simpa [varsL] using this
 have l2:(varsL x.2).length≤x.2.length:=by have:=vs_len [] x.2;simpa [varsL] using this
 have C1:=rvars_any (cap:=ac) (h1.same W0) (by omega)
 have C2:Hid (∀ ww,Same0 (w.alloc (.cells #[.slice ao x.1.length ac,.slice bo x.2.length bc] 90)) ww→Calls Tryz.prog 223 #[.slice bo x.2.length bc] ww fun e w' => ∃ v,e=.returned v∧Row ww.heap.size w' v (varsL x.2)∧Same0 ww w'):=fun ww hk=>rvars_any (cap:=bc) ((h2.same W0).same hk) (by omega)
 obtain ⟨c0,c1⟩:=HB.out _ (Kept.refl _ _)
 clear h1 h2 hb b1 b2
 go_enter Tryz.func192,Tryz.ntmps192
 go_upto_region 2 with (first | (go_at_call 223;refine C1.mono ?_;rintro e w2 ⟨v2,rfl,hr2,hk2⟩;obtain ⟨vo,vc,rfl,hi2,_,_⟩:=hr2.ints))
 obtain ⟨d0,d1⟩:=HB.out _ hk2
 have C3:=C2.out _ hk2
 clear c0 c1 C1 C2
 go_upto_region 3 with (first | (go_at_call 223;refine C3.mono ?_;rintro e w3 ⟨v3,rfl,hr3,hk3⟩;obtain ⟨uo,uc,rfl,hi3,_,_⟩:=hr3.ints))
 have hi2' := hi2.same hk3
 have K3:Hid (Same0 w w3):=W0.trans' (hk2.trans' hk3)
 clear d0 d1 C3 hr2 hr3 hk2 hk3 hi2 HB W0
 have CI:=fun z=>rIn_any (cap:=vc) hi2' z (by unfold maxLen;omega)
 go_wp2
 go_loop [5] (fun i=>∃ k:Nat,k≤(varsL x.2).length∧i=.int .i64 (k:Int)∧Hid (((varsL x.2).take k).all (fun v=>inB (varsL x.1) v)=true)) (fun i=>(varsL x.2).length-(intOf i).toNat)
 case atStart=>exact ⟨0,Nat.zero_le _,rfl,by show _=_;simp⟩
 case round=>
  obtain ⟨k,hk,rfl,ha⟩:=hrel
  by_cases hlt:k<(varsL x.2).length
  ·obtain ⟨tb,off', rfl,_,hcell⟩:=hi3.get hlt
   have i1:(0:Int)≤(k:Int):=by omega
   have i2:(k:Int)<((varsL x.2).length:Int):=by omega
   have C:=CI (varsL x.2)[k]
   cases hq:inB (varsL x.1) (varsL x.2)[k] with
   | true=>
    have H:Hid (((varsL x.2).take (k+1)).all (fun v=>inB (varsL x.1) v)=true):=by
     have:=ha.out
     show _=_
     rw [List.take_add_one,List.getElem?_eq_getElem hlt,List.all_append,this]
     simp [hq]
    rw [hq] at C
    clear hq ha
    go_wp2_with (first | (go_at_call 224;refine C.mono ?_;rintro e w4 ⟨rfl,rfl⟩))
    exact ⟨⟨k+1,by omega,by go_num,H⟩,by simp [intOf];omega⟩
   | false=>
    have H:Hid ((varsL x.2).all (fun v=>inB (varsL x.1) v)=false):=by
     show _=_
     rw [List.all_eq_false]
     exact ⟨(varsL x.2)[k],List.getElem_mem hlt,by simp [hq]⟩
    rw [hq] at C
    clear hq ha
    go_wp2_with (first | (go_at_call 224;refine C.mono ?_;rintro e w4 ⟨rfl,rfl⟩))
    go_ret
    exact ⟨by rw [H.out];rfl,K3.out⟩
  ·have H:Hid ((varsL x.2).all (fun v=>inB (varsL x.1) v)=true):=by
    have:=ha.out
    rw [List.take_of_length_le (by omega)] at this
    exact this
   have hlt' : ¬ (k:Int)<((varsL x.2).length:Int):=by omega
   go_wp2
   go_ret
   exact ⟨by rw [H.out];rfl,K3.out⟩
theorem ck3_eq {L:List Sym} {R l:List Ru} {n:Nat} {x:Ru} (hx:x=l.getD n ([],[])) (hp:0<x.1.length):ckB L R l 3 n=defB L x.1[0]:=by
 subst hx
 show defB L ((l.getD n ([],[])).1.headD (-1))=_
 generalize (l.getD n ([],[])).1=y at *
 cases y with
 | nil=>simp at hp
 | cons y r=>simp
theorem ck4_eq {L:List Sym} {R l:List Ru} {n:Nat} {x:Ru} (hx:x=l.getD n ([],[])):ckB L R l 4 n=decide (negN x.1=(varsL x.1).length):=by subst hx;rfl
theorem ck5_eq {L:List Sym} {R l:List Ru} {n:Nat} {x:Ru} (hx:x=l.getD n ([],[])):ckB L R l 5 n=x.1.tail.all (fun n=>!defB L n):=by subst hx;rfl
theorem ck6_eq {L:List Sym} {R l:List Ru} {n:Nat} {x:Ru} (hx:x=l.getD n ([],[])):ckB L R l 6 n=x.2.all (fun n=>!freeB x.1 n):=by subst hx;rfl
theorem Upto.ok1 {L:List Sym} {R l:List Ru} {j n:Nat} (h:Upto L R l (j+2) n) {i:Nat} (hi:i<l.length):checkE L l[i].1=0∧checkE L l[i].2=0:=by
 have:=h.1 1 (by omega) i hi
 simp only [ckB,askB,Bool.and_eq_true,decide_eq_true_eq] at this
 simpa [List.getD,hi] using this
set_option maxHeartbeats 16000000 in
theorem rshapes_any {w:World} {m:Nat} {ro:Option Addr} {rc:Nat} {mo:Option Addr} {mc:Nat} {L:List Sym} {R:List Ru} (h:MR w m ro rc mo mc L R) {lo:Option Addr} {lc:Nat} {l:List Ru} (hl:RsAt w lo l) (hn:l.length≤100) (hu:Upto L R l 3 0) :
  Calls Tryz.prog 138 #[.pointer (some ⟨m,0,none⟩),.slice lo l.length lc] w fun e w' => ∃ ws v,e=.returned v∧PartA L R l 3 7 ws∧WrsAt w' v ws∧Same0 w w' := by
 have hs:Same0 w w:=Kept.refl _ _
 have hu2:Hid (Upto L R l 3 0):=hu
 have hok:∀ i (hi:i<l.length),checkE L l[i].1=0∧checkE L l[i].2=0:=fun i hi=>hu.ok1 hi
 clear hu
 go_enter Tryz.func138,Tryz.ntmps138
 go_wp2
 go_loopw [5] (fun i wr=>∃ n:Nat,n≤l.length∧i=.int .i64 (n:Int)∧Hid (Upto L R l 3 n)∧Same0 w wr) (fun i _=>l.length-(intOf i).toNat)
 case atStart=>exact ⟨0,Nat.zero_le _,rfl,hu2,hs⟩
 case round=>
  clear hs hu2 
  obtain ⟨n,hnl,rfl,hu,hs⟩:=hrel
  by_cases hlt:n<l.length
  ·obtain ⟨lb,off,rfl,hlb,hru⟩:=(hl.same hs).get hlt
   obtain ⟨x,hx0⟩:∃ x,x=l[n]:=⟨_,rfl⟩
   have hxo:=hok n hlt
   rw [← hx0] at hru hxo
   have hx:x=l.getD n ([],[]):=by rw [hx0];simp [List.getD,hlt]
   obtain ⟨ao,ac,bo,bc,r0,r1,A1,A2⟩:=hru
   have i1:(0:Int)≤(n:Int):=by omega
   have i2:(n:Int)<(l.length:Int):=by omega
   have hm1:=h.same hs
   obtain ⟨⟨hp1,hm11⟩,hp2,hm22⟩:=ok_len hxo
   have P0:Hid (ckB L R l 3 n=true→Upto L R l 3 (n+1)):=fun q=>hu.out.step q
   have P1:Hid (ckB L R l 3 n=false→PartA L R l 3 7 [(73,(n:Int))]):=fun q=>.inr ⟨3,n,by omega,by omega,hlt,hu.out,q,rfl⟩
   obtain ⟨ab,ao', rfl,HX⟩:∃ ab ao', ao=some ⟨ab,ao', none⟩∧Hid (∀ ww,Same0 wr ww→ww.cell? ⟨ab,ao', none⟩=some (.int .i64 x.1[0])):=by
    obtain ⟨ab,ao', e,hlt', hc⟩:=A1.at'.get hp1
    exact ⟨ab,ao', e,fun ww hk=>(hk.cell (p:=⟨ab,ao' + 0,none⟩) hlt' (fun f=>f)).trans hc⟩
   have i3:(0:Int)<(x.1.length:Int):=by omega
   have HS:Hid (∀ ww,Same0 wr ww→ww.cell? ⟨m,0,none⟩=some (.slice ro L.length rc)∧ww.cell? ⟨lb,off+n * 2,none⟩=some (.slice (some ⟨ab,ao', none⟩) x.1.length ac)∧ww.cell? ⟨ab,ao', none⟩=some (.int .i64 x.1[0])):=fun ww hk=>⟨cellAt (hm1.same hk).blk 0,(hk.cell (p:=⟨lb,off+n * 2,none⟩) hlb (fun f=>f)).trans r0,HX.out ww hk⟩
   have CC0:=HS.out wr (Kept.refl _ _)
   have W1:Same0 wr wr.drew:=Kept.drew (Kept.refl _ _)
   have C1:Hid (∀ ww,Same0 wr ww→Calls Tryz.prog 97 #[.slice ro L.length rc,.int .i64 x.1[0]] ww fun e w' => e=.returned (.bool (defB L x.1[0]))∧Same0 wr w'):=fun ww hk=>(rdef_any (hm1.same hk).rl x.1[0]).mono (fun e w' ⟨q1,q2⟩=>⟨q1,by rw [q2];exact hk⟩)
   cases hq:defB L x.1[0] with
   | true=>
    have P:=P0.out (by rw [ck3_eq hx hp1,hq])
    have C2:Hid (∀ ww,Same0 wr ww→Calls Tryz.prog 97 #[.slice ro L.length rc,.int .i64 x.1[0]] ww fun e w' => e=.returned (.bool true)∧Same0 wr w'):=by simpa only [hq] using C1
    clear P0 P1 hq hx hx0 hu hm1 A1 A2 C1
    go_wp2
    go_region_held3 (fun w' => w'.cell? ⟨m,0,none⟩=some (.slice ro L.length rc)∧w'.cell? ⟨lb,off+n * 2,none⟩=some (.slice (some ⟨ab,ao', none⟩) x.1.length ac)∧w'.cell? ⟨ab,ao', none⟩=some (.int .i64 x.1[0])) (first | exact cc1 | exact CC0) (first | (go_at_call 97;refine (C2.out _ W1).mono ?_;rintro e w2 ⟨rfl,hw2⟩;have cc1:=HS.out _ hw2))
    all_goals
     go_wp2
     exact ⟨⟨n+1,by omega,by go_num,P,hs.trans' hw2⟩,by simp [intOf];omega⟩
   | false=>
    have P:=P1.out (by rw [ck3_eq hx hp1,hq])
    have C2:Hid (∀ ww,Same0 wr ww→Calls Tryz.prog 97 #[.slice ro L.length rc,.int .i64 x.1[0]] ww fun e w' => e=.returned (.bool false)∧Same0 wr w'):=by simpa only [hq] using C1
    clear P0 P1 hq hx hx0 hu hm1 A1 A2 C1
    go_wp2
    go_region_held3 (fun w' => w'.cell? ⟨m,0,none⟩=some (.slice ro L.length rc)∧w'.cell? ⟨lb,off+n * 2,none⟩=some (.slice (some ⟨ab,ao', none⟩) x.1.length ac)∧w'.cell? ⟨ab,ao', none⟩=some (.int .i64 x.1[0])) (first | exact cc1 | exact CC0) (first | (go_at_call 97;refine (C2.out _ W1).mono ?_;rintro e w2 ⟨rfl,hw2⟩;have cc1:=HS.out _ hw2))
    all_goals
     go_wp2_with (first | (go_at_call 136;refine (rone_any _ _ _).mono ?_;rintro e w3 ⟨v,rfl,hv,hk3⟩))
     go_ret
     exact ⟨_,_,rfl,P,hv,hs.trans' (hw2.trans' hk3)⟩
  ·have hu2:Hid (Upto L R l 4 0):=hu.out.next (by omega)
   have hlt' : ¬ (n:Int)<(l.length:Int):=by omega
   clear hu hlt
   go_wp2
   go_loopw [7] (fun i wr=>∃ n:Nat,n≤l.length∧i=.int .i64 (n:Int)∧Hid (Upto L R l 4 n)∧Same0 w wr) (fun i _=>l.length-(intOf i).toNat)
   case atStart=>exact ⟨0,Nat.zero_le _,rfl,hu2,hs⟩
   case round=>
    clear hs hu2 hlt' hnl
    obtain ⟨n,hnl,rfl,hu,hs⟩:=hrel
    by_cases hlt:n<l.length
    ·obtain ⟨lb,off,rfl,hlb,hru⟩:=(hl.same hs).get hlt
     obtain ⟨x,hx0⟩:∃ x,x=l[n]:=⟨_,rfl⟩
     have hxo:=hok n hlt
     rw [← hx0] at hru hxo
     have hx:x=l.getD n ([],[]):=by rw [hx0];simp [List.getD,hlt]
     obtain ⟨ao,ac,bo,bc,r0,r1,A1,A2⟩:=hru
     have i1:(0:Int)≤(n:Int):=by omega
     have i2:(n:Int)<(l.length:Int):=by omega
     have hm1:=h.same hs
     obtain ⟨⟨hp1,hm11⟩,hp2,hm22⟩:=ok_len hxo
     have P0:Hid (ckB L R l 4 n=true→Upto L R l 4 (n+1)):=fun q=>hu.out.step q
     have P1:Hid (ckB L R l 4 n=false→PartA L R l 3 7 [(74,(n:Int))]):=fun q=>.inr ⟨4,n,by omega,by omega,hlt,hu.out,q,rfl⟩
     have C1:=rlinear_any (ac:=ac) A1.at' hm11
     cases hq:decide (negN x.1=(varsL x.1).length) with
     | true=>
      have P:=P0.out (by rw [ck4_eq hx,hq])
      rw [hq] at C1
      clear P0 P1 hq hx hx0 hu hm1 A1 A2
      go_wp2_with (first | (go_at_call 190;refine C1.mono ?_;rintro e w2 ⟨rfl,hw2⟩))
      exact ⟨⟨n+1,by omega,by go_num,P,hs.trans' hw2⟩,by simp [intOf];omega⟩
     | false=>
      have P:=P1.out (by rw [ck4_eq hx,hq])
      rw [hq] at C1
      clear P0 P1 hq hx hx0 hu hm1 A1 A2
      go_wp2_with (first | (go_at_call 136;refine (rone_any _ _ _).mono ?_;rintro e w3 ⟨v,rfl,hv,hk3⟩) | (go_at_call 190;refine C1.mono ?_;rintro e w2 ⟨rfl,hw2⟩))
      go_ret
      exact ⟨_,_,rfl,P,hv,hs.trans' (hw2.trans' hk3)⟩
    ·have hu2:Hid (Upto L R l 5 0):=hu.out.next (by omega)
     have hlt' : ¬ (n:Int)<(l.length:Int):=by omega
     clear hu hlt
     go_wp2
     go_loopw [9] (fun i wr=>∃ n:Nat,n≤l.length∧i=.int .i64 (n:Int)∧Hid (Upto L R l 5 n)∧Same0 w wr) (fun i _=>l.length-(intOf i).toNat)
     case atStart=>exact ⟨0,Nat.zero_le _,rfl,hu2,hs⟩
     case round=>
      clear hs hu2 hlt' hnl
      obtain ⟨n,hnl,rfl,hu,hs⟩:=hrel
      by_cases hlt:n<l.length
      ·obtain ⟨lb,off,rfl,hlb,hru⟩:=(hl.same hs).get hlt
       obtain ⟨x,hx0⟩:∃ x,x=l[n]:=⟨_,rfl⟩
       have hxo:=hok n hlt
       rw [← hx0] at hru hxo
       have hx:x=l.getD n ([],[]):=by rw [hx0];simp [List.getD,hlt]
       obtain ⟨ao,ac,bo,bc,r0,r1,A1,A2⟩:=hru
       have i1:(0:Int)≤(n:Int):=by omega
       have i2:(n:Int)<(l.length:Int):=by omega
       have hm1:=h.same hs
       obtain ⟨⟨hp1,hm11⟩,hp2,hm22⟩:=ok_len hxo
       have P0:Hid (ckB L R l 5 n=true→Upto L R l 5 (n+1)):=fun q=>hu.out.step q
       have P1:Hid (ckB L R l 5 n=false→PartA L R l 3 7 [(75,(n:Int))]):=fun q=>.inr ⟨5,n,by omega,by omega,hlt,hu.out,q,rfl⟩
       have HS:Hid (∀ ww,Same0 wr ww→ww.cell? ⟨m,0,none⟩=some (.slice ro L.length rc)∧ww.cell? ⟨lb,off+n * 2,none⟩=some (.slice ao x.1.length ac)):=fun ww hk=>⟨cellAt (hm1.same hk).blk 0,(hk.cell (p:=⟨lb,off+n * 2,none⟩) hlb (fun f=>f)).trans r0⟩
       have CC0:=HS.out wr (Kept.refl _ _)
       have W1:Same0 wr wr.drew:=Kept.drew (Kept.refl _ _)
       have C1:Hid (∀ ww,Same0 wr ww→Calls Tryz.prog 191 #[.slice ro L.length rc,.slice ao x.1.length ac] ww fun e w' => e=.returned (.bool (x.1.tail.all (fun n=>!defB L n)))∧Same0 wr w'):=fun ww hk=>(rbelow_any (hm1.same hk).rl (A1.same hk).at' hm11).mono (fun e w' ⟨q1,q2⟩=>⟨q1,by rw [q2];exact hk⟩)
       cases hq:x.1.tail.all (fun n=>!defB L n) with
       | true=>
        have P:=P0.out (by rw [ck5_eq hx,hq])
        have C2:Hid (∀ ww,Same0 wr ww→Calls Tryz.prog 191 #[.slice ro L.length rc,.slice ao x.1.length ac] ww fun e w' => e=.returned (.bool true)∧Same0 wr w'):=by simpa only [hq] using C1
        clear P0 P1 hq hx hx0 hu hm1 A1 A2 C1
        go_wp2
        go_region_held3 (fun w' => w'.cell? ⟨m,0,none⟩=some (.slice ro L.length rc)∧w'.cell? ⟨lb,off+n * 2,none⟩=some (.slice ao x.1.length ac)) (first | exact cc1 | exact CC0) (first | (go_at_call 191;refine (C2.out _ W1).mono ?_;rintro e w2 ⟨rfl,hw2⟩;have cc1:=HS.out _ hw2))
        all_goals
         go_wp2
         exact ⟨⟨n+1,by omega,by go_num,P,hs.trans' hw2⟩,by simp [intOf];omega⟩
       | false=>
        have P:=P1.out (by rw [ck5_eq hx,hq])
        have C2:Hid (∀ ww,Same0 wr ww→Calls Tryz.prog 191 #[.slice ro L.length rc,.slice ao x.1.length ac] ww fun e w' => e=.returned (.bool false)∧Same0 wr w'):=by simpa only [hq] using C1
        clear P0 P1 hq hx hx0 hu hm1 A1 A2 C1
        go_wp2
        go_region_held3 (fun w' => w'.cell? ⟨m,0,none⟩=some (.slice ro L.length rc)∧w'.cell? ⟨lb,off+n * 2,none⟩=some (.slice ao x.1.length ac)) (first | exact cc1 | exact CC0) (first | (go_at_call 191;refine (C2.out _ W1).mono ?_;rintro e w2 ⟨rfl,hw2⟩;have cc1:=HS.out _ hw2))
        all_goals
         go_wp2_with (first | (go_at_call 136;refine (rone_any _ _ _).mono ?_;rintro e w3 ⟨v,rfl,hv,hk3⟩))
         go_ret
         exact ⟨_,_,rfl,P,hv,hs.trans' (hw2.trans' hk3)⟩
      ·have hu2:Hid (Upto L R l 6 0):=hu.out.next (by omega)
       have hlt' : ¬ (n:Int)<(l.length:Int):=by omega
       clear hu hlt
       go_wp2
       go_loopw [11] (fun i wr=>∃ n:Nat,n≤l.length∧i=.int .i64 (n:Int)∧Hid (Upto L R l 6 n)∧Same0 w wr) (fun i _=>l.length-(intOf i).toNat)
       case atStart=>exact ⟨0,Nat.zero_le _,rfl,hu2,hs⟩
       case round=>
        clear hs hu2 hlt' hnl
        obtain ⟨n,hnl,rfl,hu,hs⟩:=hrel
        by_cases hlt:n<l.length
        ·obtain ⟨lb,off,rfl,hlb,hru⟩:=(hl.same hs).get hlt
         obtain ⟨x,hx0⟩:∃ x,x=l[n]:=⟨_,rfl⟩
         have hxo:=hok n hlt
         rw [← hx0] at hru hxo
         have hx:x=l.getD n ([],[]):=by rw [hx0];simp [List.getD,hlt]
         obtain ⟨ao,ac,bo,bc,r0,r1,A1,A2⟩:=hru
         have i1:(0:Int)≤(n:Int):=by omega
         have i2:(n:Int)<(l.length:Int):=by omega
         have hm1:=h.same hs
         obtain ⟨⟨hp1,hm11⟩,hp2,hm22⟩:=ok_len hxo
         have P0:Hid (ckB L R l 6 n=true→Upto L R l 6 (n+1)):=fun q=>hu.out.step q
         have P1:Hid (ckB L R l 6 n=false→PartA L R l 3 7 [(76,(n:Int))]):=fun q=>.inr ⟨6,n,by omega,by omega,hlt,hu.out,q,rfl⟩
         have C1:=rfree_any (ac:=ac) (bc:=bc) A1.at' A2.at' hm11 hm22 (fun n hn=>(badE_zero.1 (checkE_zero.1 hxo.1).2.1 n hn).2) (fun n hn=>(badE_zero.1 (checkE_zero.1 hxo.2).2.1 n hn).2)
         cases hq:x.2.all (fun n=>!freeB x.1 n) with
         | true=>
          have P:=P0.out (by rw [ck6_eq hx,hq])
          rw [hq] at C1
          clear P0 P1 hq hx hx0 hu hm1 A1 A2
          go_wp2_with (first | (go_at_call 192;refine C1.mono ?_;rintro e w2 ⟨rfl,hw2⟩))
          exact ⟨⟨n+1,by omega,by go_num,P,hs.trans' hw2⟩,by simp [intOf];omega⟩
         | false=>
          have P:=P1.out (by rw [ck6_eq hx,hq])
          rw [hq] at C1
          clear P0 P1 hq hx hx0 hu hm1 A1 A2
          go_wp2_with (first | (go_at_call 136;refine (rone_any _ _ _).mono ?_;rintro e w3 ⟨v,rfl,hv,hk3⟩) | (go_at_call 192;refine C1.mono ?_;rintro e w2 ⟨rfl,hw2⟩))
          go_ret
          exact ⟨_,_,rfl,P,hv,hs.trans' (hw2.trans' hk3)⟩
        ·have P:Hid (PartA L R l 3 7 []):=.inl ⟨rfl,hu.out.next (by omega)⟩
         have hlt' : ¬ (n:Int)<(l.length:Int):=by omega
         clear hu hlt
         go_wp2
         go_ret
         exact ⟨_,_,rfl,P.out,wrs_nil _,hs⟩
end Go.Proofs.YtmjgnfkbnofjoaaGreatDoor
namespace Go.Proofs.YtmjgnfkbnofjoaaGreatDoor
set_option linter.unusedVariables false
def kidPairs (L:List Sym) (J:List Int) (p q:Nat):List (Nat × Nat):=((kidsL L J p).zip (kidsL L J q)).reverse
def netF (L:List Sym) (J:List Int):Nat→(Int→Int)→List (Nat × Nat)→Option (Option (Int→Int))
 | 0,_,_=>none
 | _+1,ld,[]=>some (some ld)
 | n+1,ld,(y,x) :: r=>
  if ld x=ld y then netF L J n ld r
  else if ld x<0 then netF L J n (un (ld x) (ld y) ld) r
  else if ld y<0 then netF L J n (un (ld y) (ld x) ld) r
  else if at' J (ld x)≠at' J (ld y) then some none
  else netF L J n (un (ld x) (ld y) ld) (kidPairs L J (ld x).toNat (ld y).toNat++r)
theorem zip_len {α β:Type}:∀ (l:List α) (m:List β),l.length=m.length→(l.zip m).length=l.length
 | [],m,_=>by simp
 | x :: l,[],h=>by simp at h
 | x :: l,y :: m,h=>by simp [zip_len l m (by simpa using h)]
theorem zip_at {l m:List Nat} (h:l.length=m.length) {i:Nat} (hi:i<l.length):(l.zip m)[i]? = some (l[i],m[i]'(by omega)):=by
 rw [List.getElem?_eq_getElem (by rw [zip_len l m h];exact hi),List.getElem_zip]
structure NOk (L:List Sym) (J:List Int) (res:Option (Int→Int)) (k:Nat) (ld:Int→Int) (ps:List (Nat × Nat)):Prop where
 trs:Trs L J
 ok:LdOk J ld
 pairs:∀ r∈ps,r.1<J.length∧r.2<J.length
 eq:netF L J k ld ps=some res
 len:ps.length+(J.length+1) * roots J ld≤(J.length+1) * J.length+1
theorem pairs_lt {L:List Sym} {J:List Int} (hT:Trs L J) {p q:Nat} (hp:p<J.length) (hq:q<J.length):∀ r∈kidPairs L J p q,r.1<J.length∧r.2<J.length:=by
 intro r hr
 unfold kidPairs at hr
 rw [List.mem_reverse] at hr
 obtain ⟨h1,h2⟩:=List.of_mem_zip (show (r.1,r.2)∈_ from hr)
 exact ⟨kids_lt hT hp _ h1,kids_lt hT hq _ h2⟩
theorem starts_le {L:List Sym} {J:List Int}:∀ {k p q:Nat},Forest L J k p q→k≤q-p
 | 0,p,q,h=>Nat.zero_le _
 | k+1,p,q,h=>by
  obtain ⟨h1,h2,h3⟩:=h.succ
  have:=starts_le h3
  have:=h3.le
  omega
theorem pairs_len {L:List Sym} {J:List Int} (hT:Trs L J) {p:Nat} (hp:p<J.length) (q:Nat):(kidPairs L J p q).length≤J.length:=by
 unfold kidPairs
 rw [List.length_reverse,List.length_zip]
 have h1:=starts_le (kids_forest hT hp)
 have h2:=(hT.lt hp).2
 have h3:(kidsL L J p).length=arN L (at' J p):=starts_length _ _ _ _
 omega
theorem NOk.nil {L:List Sym} {J:List Int} {res:Option (Int→Int)} {k:Nat} {ld:Int→Int} (h:NOk L J res k ld []):res=some ld:=by
 have:=h.eq
 cases k with
 | zero=>simp [netF] at this
 | succ k=>simp [netF] at this;exact this.symm
theorem NOk.step {L:List Sym} {J:List Int} {res:Option (Int→Int)} {k:Nat} {ld:Int→Int} {x y:Nat} {ps:List (Nat × Nat)} (h:NOk L J res k ld ((y,x) :: ps)):∃ k', k=k' + 1 ∧
  (ld x=ld y→NOk L J res k' ld ps) ∧
  (ld x≠ld y→ld x<0→NOk L J res k' (un (ld x) (ld y) ld) ps) ∧
  (ld x≠ld y→¬ ld x<0→ld y<0→NOk L J res k' (un (ld y) (ld x) ld) ps) ∧
  (ld x≠ld y→¬ ld x<0→¬ ld y<0→at' J (ld x)≠at' J (ld y)→res=none) ∧
  (ld x≠ld y→¬ ld x<0→¬ ld y<0→at' J (ld x)=at' J (ld y)→NOk L J res k' (un (ld x) (ld y) ld) (kidPairs L J (ld x).toNat (ld y).toNat++ps)):=by
 have heq:=h.eq
 have hlen:=h.len
 obtain ⟨t2,t1⟩:=h.pairs (y,x) (by simp)
 simp only at t1 t2
 have px:=part_nat (J:=J) (p:=x) t1
 have po:=part_nat (J:=J) (p:=y) t2
 have hpx:=h.ok.part _ px
 have hpo:=h.ok.part _ po
 have hlx:=h.ok.idem _ px
 have hlo:=h.ok.idem _ po
 have hr:∀ r∈ps,r.1<J.length∧r.2<J.length:=fun r hr=>h.pairs r (by simp [hr])
 rw [List.length_cons] at hlen
 cases k with
 | zero=>simp [netF] at heq
 | succ k=>
  rw [netF] at heq
  refine ⟨k,rfl,?_,?_,?_,?_,?_⟩
  ·intro h1;rw [if_pos h1] at heq
   exact ⟨h.trs,h.ok,hr,heq,by omega⟩
  ·intro h1 h2
   rw [if_neg h1,if_pos h2] at heq
   have:=Nat.mul_le_mul_left (J.length+1) (roots_le (J:=J) (p:=ld x) hlo h1)
   exact ⟨h.trs,h.ok.un hlx hlo hpo h1 (h.ok.sym _ po) (fun f=>by omega),hr,heq,by omega⟩
  ·intro h1 h2 h3
   have h1' : ld y≠ld x:=fun e=>h1 e.symm
   rw [if_neg h1,if_neg h2,if_pos h3] at heq
   have:=Nat.mul_le_mul_left (J.length+1) (roots_le (J:=J) (p:=ld y) hlx h1')
   exact ⟨h.trs,h.ok.un hlo hlx hpx h1' (h.ok.sym _ px) (fun f=>by omega),hr,heq,by omega⟩
  ·intro h1 h2 h3 h4
   rw [if_neg h1,if_neg h2,if_neg h3,if_pos h4] at heq
   simp at heq;exact heq.symm
  ·intro h1 h2 h3 h4
   rw [if_neg h1,if_neg h2,if_neg h3,if_neg (by simpa using h4)] at heq
   obtain ⟨p,hp⟩:=Int.eq_ofNat_of_zero_le (Int.not_lt.1 h2)
   have hpl:(ld x).toNat<J.length:=by have:=hpx.2;omega
   have hql:(ld y).toNat<J.length:=by have:=hpo.2;omega
   have hlt:=roots_lt (J:=J) (ld:=ld) (p:=p) (q:=ld y) hlo (by rw [← hp];exact h1) (by rw [← hp];exact hlx) (by omega)
   rw [← hp] at hlt
   have h5:=Nat.mul_le_mul_left (J.length+1) (Nat.succ_le_of_lt hlt)
   rw [Nat.succ_eq_add_one,Nat.mul_add,Nat.mul_one] at h5
   have h6:=pairs_len h.trs hpl (ld y).toNat
   refine ⟨h.trs,h.ok.un hlx hlo hpo h1 (h.ok.sym _ po) (fun _=>⟨by omega,h4.symm⟩),?_,heq,by rw [List.length_append];omega⟩
   intro r hr'
   rcases List.mem_append.1 hr' with e | e
   ·exact pairs_lt h.trs hpl hql r e
   ·exact hr r e
theorem net_ends {L:List Sym} {J:List Int} (hT:Trs L J):∀ (n:Nat) (ld:Int→Int) (ps:List (Nat × Nat)),LdOk J ld→(∀ r∈ps,r.1<J.length∧r.2<J.length)→ps.length+(J.length+1) * roots J ld<n→∃ r,netF L J n ld ps=some r:=by
 intro n
 induction n with
 | zero=>intro ld ps _ _ h;omega
 | succ n ih=>
  intro ld ps hl hr hn
  cases ps with
  | nil=>exact ⟨_,rfl⟩
  | cons r ps=>
   obtain ⟨y,x⟩:=r
   have hr2:∀ r∈ps,r.1<J.length∧r.2<J.length:=fun r h=>hr r (by simp [h])
   obtain ⟨t2,t1⟩:=hr (y,x) (by simp)
   simp only at t1 t2
   rw [List.length_cons] at hn
   have px:=part_nat (J:=J) (p:=x) t1
   have po:=part_nat (J:=J) (p:=y) t2
   have hpx:=hl.part _ px
   have hpo:=hl.part _ po
   have hlx:=hl.idem _ px
   have hlo:=hl.idem _ po
   rw [netF]
   by_cases h1:ld x=ld y
   ·rw [if_pos h1];exact ih _ _ hl hr2 (by omega)
   ·rw [if_neg h1]
    have h1' : ld y≠ld x:=fun e=>h1 e.symm
    by_cases h2:ld x<0
    ·rw [if_pos h2]
     have:=Nat.mul_le_mul_left (J.length+1) (roots_le (J:=J) (p:=ld x) hlo h1)
     exact ih _ _ (hl.un hlx hlo hpo h1 (hl.sym _ po) (fun f=>by omega)) hr2 (by omega)
    ·rw [if_neg h2]
     by_cases h3:ld y<0
     ·rw [if_pos h3]
      have:=Nat.mul_le_mul_left (J.length+1) (roots_le (J:=J) (p:=ld y) hlx h1')
      exact ih _ _ (hl.un hlo hlx hpx h1' (hl.sym _ px) (fun f=>by omega)) hr2 (by omega)
     ·rw [if_neg h3]
      by_cases h4:at' J (ld x)≠at' J (ld y)
      ·rw [if_pos h4];exact ⟨_,rfl⟩
      ·rw [if_neg h4]
       have h4:at' J (ld x)=at' J (ld y):=by simpa using h4
       obtain ⟨p,hp⟩:=Int.eq_ofNat_of_zero_le (Int.not_lt.1 h2)
       have hpl:(ld x).toNat<J.length:=by have:=hpx.2;omega
       have hql:(ld y).toNat<J.length:=by have:=hpo.2;omega
       have hlt:=roots_lt (J:=J) (ld:=ld) (p:=p) (q:=ld y) hlo (by rw [← hp];exact h1) (by rw [← hp];exact hlx) (by omega)
       rw [← hp] at hlt
       have h5:=Nat.mul_le_mul_left (J.length+1) (Nat.succ_le_of_lt hlt)
       rw [Nat.succ_eq_add_one,Nat.mul_add,Nat.mul_one] at h5
       have h6:=pairs_len hT hpl (ld y).toNat
       refine ih _ _ (hl.un hlx hlo hpo h1 (hl.sym _ po) (fun _=>⟨by omega,h4.symm⟩)) (fun r hr' => ?_) (by rw [List.length_append];omega)
       rcases List.mem_append.1 hr' with e | e
       ·exact pairs_lt hT hpl hql r e
       ·exact hr2 r e
def InvN (L:List Sym) (J:List Int) (m:Nat) (ld:Int→Int) (ps:List (Nat × Nat)):Prop:=∀ φ:Int→Int,Compat J φ ld→(∀ r∈ps,φ (r.1:Nat)=φ (r.2:Nat))→φ 0=φ m∧∀ P:Nat,P<J.length→0≤at' J P→∀ i,i<arN L (at' J P)→φ (past L J i (P+1):Nat)=φ (past L J i ((ld P).toNat+1):Nat)
theorem kid_pair {L:List Sym} {J:List Int} {p q i:Nat} (h:at' J p=at' J q) (hi:i<arN L (at' J p)):(past L J i (p+1),past L J i (q+1))∈kidPairs L J p q:=by
 unfold kidPairs
 rw [List.mem_reverse]
 have k1:=kids_at (L:=L) (J:=J) (p:=p) hi
 have k2:=kids_at (L:=L) (J:=J) (p:=q) (i:=i) (by rw [← h];exact hi)
 have l1:(kidsL L J p).length=arN L (at' J p):=starts_length _ _ _ _
 have l2:(kidsL L J q).length=arN L (at' J q):=starts_length _ _ _ _
 have hl:(kidsL L J p).length=(kidsL L J q).length:=by rw [l1,l2,h]
 have hz:=zip_at hl (i:=i) (by omega)
 rw [List.getElem?_eq_getElem (by omega),Option.some.injEq] at k1
 rw [List.getElem?_eq_getElem (by omega),Option.some.injEq] at k2
 rw [k1,k2] at hz
 exact List.mem_of_getElem? hz
theorem net_inv {L:List Sym} {J:List Int} {m:Nat}:∀ (n:Nat) (ld:Int→Int) (ps:List (Nat × Nat)) (ldf:Int→Int),NOk L J (some ldf) n ld ps→InvN L J m ld ps→LdOk J ldf∧InvN L J m ldf []:=by
 intro n
 induction n with
 | zero=>intro ld ps ldf h _;have:=h.eq;simp [netF] at this
 | succ n ih=>
  intro ld ps ldf h hI
  cases ps with
  | nil=>
   have:=h.nil
   simp only [Option.some.injEq] at this
   rw [this];exact ⟨h.ok,hI⟩
  | cons r ps=>
   obtain ⟨y,x⟩:=r
   obtain ⟨k', hk', S1,S2,S3,S4,S5⟩:=h.step
   obtain ⟨t2,t1⟩:=h.pairs (y,x) (by simp)
   simp only at t1 t2
   have px:=part_nat (J:=J) (p:=x) t1
   have po:=part_nat (J:=J) (p:=y) t2
   have hpx:=h.ok.part _ px
   have hpo:=h.ok.part _ po
   have hlx:=h.ok.idem _ px
   have hlo:=h.ok.idem _ po
   obtain rfl:k' = n:=by omega
   have rest:∀ (φ:Int→Int),Compat J φ ld→φ (ld x)=φ (ld y)→(∀ r∈ps,φ (r.1:Nat)=φ (r.2:Nat))→∀ r∈(y,x) :: ps,φ (r.1:Nat)=φ (r.2:Nat):=by
    intro φ hc he hp r hr
    rcases List.mem_cons.1 hr with e | e
    ·rw [e]
     simp only
     rw [← hc x px,← hc y po,he]
    ·exact hp r e
   by_cases h1:ld x=ld y
   ·exact ih _ _ _ (S1 h1) (fun φ hc hp=>hI φ hc (rest φ hc (by rw [h1]) hp))
   ·by_cases h2:ld x<0
    ·refine ih _ _ _ (S2 h1 h2) (fun φ hc hp=>?_)
     obtain ⟨e,hc'⟩:=compat_un h.ok hpx hlx hc
     obtain ⟨a1,a2⟩:=hI φ hc' (rest φ hc' e hp)
     refine ⟨a1,fun P hP hs i hi=>?_⟩
     have hl:=(h.ok.like P (part_nat hP) (by omega) hs).1
     have:un (ld x) (ld y) ld P=ld P:=by unfold un;rw [if_neg (by omega)]
     rw [this];exact a2 P hP hs i hi
    ·by_cases h3:ld y<0
     ·refine ih _ _ _ (S3 h1 h2 h3) (fun φ hc hp=>?_)
      obtain ⟨e,hc'⟩:=compat_un h.ok hpo hlo hc
      obtain ⟨a1,a2⟩:=hI φ hc' (rest φ hc' e.symm hp)
      refine ⟨a1,fun P hP hs i hi=>?_⟩
      have hl:=(h.ok.like P (part_nat hP) (by omega) hs).1
      have:un (ld y) (ld x) ld P=ld P:=by unfold un;rw [if_neg (by omega)]
      rw [this];exact a2 P hP hs i hi
     ·by_cases h4:at' J (ld x)=at' J (ld y)
      ·refine ih _ _ _ (S5 h1 h2 h3 h4) (fun φ hc hp=>?_)
       obtain ⟨e,hc'⟩:=compat_un h.ok hpx hlx hc
       obtain ⟨a1,a2⟩:=hI φ hc' (rest φ hc' e (fun r hr=>hp r (by simp [hr])))
       refine ⟨a1,fun P hP hs i hi=>?_⟩
       by_cases f:ld P=ld x
       ·have e1:un (ld x) (ld y) ld P=ld y:=by unfold un;rw [if_pos f]
        have h5:=a2 P hP hs i hi
        rw [f] at h5
        rw [h5,e1]
        have hl:=(h.ok.like P (part_nat hP) (by omega) hs)
        rw [f] at hl
        have c1:(((ld x).toNat:Nat):Int)=ld x:=by omega
        have c2:(((ld y).toNat:Nat):Int)=ld y:=by omega
        exact hp (past L J i ((ld x).toNat+1),past L J i ((ld y).toNat+1)) (List.mem_append.2 (.inl (kid_pair (by rw [c1,c2];exact h4) (by rw [c1,hl.2];exact hi))))
       ·have e1:un (ld x) (ld y) ld P=ld P:=by unfold un;rw [if_neg f]
        rw [e1];exact a2 P hP hs i hi
      ·have:=S4 h1 h2 h3 h4;cases this
theorem net_var {L:List Sym} {J:List Int} {P:Nat}:∀ (n:Nat) (ld:Int→Int) (ps:List (Nat × Nat)) (ldf:Int→Int),NOk L J (some ldf) n ld ps→ld P=ld (at' J P)→ldf P=ldf (at' J P):=by
 have hun:∀ (p q:Int) (ld:Int→Int),ld P=ld (at' J P)→un p q ld P=un p q ld (at' J P):=fun p q ld e=>by unfold un;rw [e]
 intro n
 induction n with
 | zero=>intro ld ps ldf h _;have:=h.eq;simp [netF] at this
 | succ n ih=>
  intro ld ps ldf h hI
  cases ps with
  | nil=>
   have:=h.nil
   simp only [Option.some.injEq] at this
   rw [this];exact hI
  | cons r ps=>
   obtain ⟨y,x⟩:=r
   obtain ⟨k', hk', S1,S2,S3,S4,S5⟩:=h.step
   obtain rfl:k' = n:=by omega
   by_cases h1:ld x=ld y
   ·exact ih _ _ _ (S1 h1) hI
   ·by_cases h2:ld x<0
    ·exact ih _ _ _ (S2 h1 h2) (hun _ _ _ hI)
    ·by_cases h3:ld y<0
     ·exact ih _ _ _ (S3 h1 h2 h3) (hun _ _ _ hI)
     ·by_cases h4:at' J (ld x)=at' J (ld y)
      ·exact ih _ _ _ (S5 h1 h2 h3 h4) (hun _ _ _ hI)
      ·have:=S4 h1 h2 h3 h4;cases this
theorem closed_net {L:List Sym} {J:List Int} {m n:Nat} {ldf:Int→Int} (h:NOk L J (some ldf) n (ld0 J) [(0,m)]):Closed L J m ldf:=by
 have st:InvN L J m (ld0 J) [(0,m)]:=by
  intro φ hc hp
  refine ⟨hp (0,m) (by simp),fun P hP hs i hi=>?_⟩
  have:ld0 J (P:Int)=P:=by unfold ld0;rw [if_neg (by omega)]
  rw [this,Int.toNat_natCast]
 obtain ⟨hl,hI⟩:=net_inv _ _ _ _ h st
 obtain ⟨a1,a2⟩:=hI ldf (fun x hx=>hl.idem x hx) (by simp)
 refine ⟨h.trs,hl,a1,a2,fun P hP hs=>?_⟩
 refine net_var _ _ _ _ h ?_
 have e1:ld0 J (P:Int)=at' J P:=by unfold ld0;rw [if_pos ⟨by omega,hs⟩]
 have e2:ld0 J (at' J P)=at' J P:=by unfold ld0;rw [if_neg (by omega)]
 rw [e1,e2]
theorem net_least {X:Type} {L:List Sym} {J:List Int} {val:Int→X} (hin:Inj L J val):∀ (n:Nat) (ld:Int→Int) (ps:List (Nat × Nat)) (res:Option (Int→Int)),NOk L J res n ld ps→(∀ x,UPart J x→val (ld x)=val x)→(∀ r∈ps,val (r.1:Nat)=val (r.2:Nat))→∃ ldf,res=some ldf∧∀ x,UPart J x→val (ldf x)=val x:=by
 intro n
 induction n with
 | zero=>intro ld ps res h;have:=h.eq;simp [netF] at this
 | succ n ih=>
  intro ld ps res h hv hp
  cases ps with
  | nil=>exact ⟨ld,h.nil,hv⟩
  | cons r ps=>
   obtain ⟨y,x⟩:=r
   have hp2:∀ r∈ps,val (r.1:Nat)=val (r.2:Nat):=fun r hr=>hp r (by simp [hr])
   obtain ⟨k', hk', S1,S2,S3,S4,S5⟩:=h.step
   obtain ⟨t2,t1⟩:=h.pairs (y,x) (by simp)
   simp only at t1 t2
   have px:=part_nat (J:=J) (p:=x) t1
   have po:=part_nat (J:=J) (p:=y) t2
   have hpx:=h.ok.part _ px
   have hpo:=h.ok.part _ po
   obtain rfl:k' = n:=by omega
   have hxo:val y=val x:=hp (y,x) (by simp)
   have hpp:val (ld x)=val (ld y):=by rw [hv x px,hv y po,hxo]
   have hun:∀ p q:Int,val p=val q→∀ x,UPart J x→val (un p q ld x)=val x:=by
    intro p q e x hx
    unfold un
    split
    ·rename_i f;rw [← e,← f];exact hv x hx
    ·exact hv x hx
   by_cases h1:ld x=ld y
   ·exact ih _ _ _ (S1 h1) hv hp2
   ·by_cases h2:ld x<0
    ·exact ih _ _ _ (S2 h1 h2) (hun _ _ hpp) hp2
    ·by_cases h3:ld y<0
     ·exact ih _ _ _ (S3 h1 h2 h3) (hun _ _ hpp.symm) hp2
     ·have hpl:(ld x).toNat<J.length:=by have:=hpx.2;omega
      have hql:(ld y).toNat<J.length:=by have:=hpo.2;omega
      have c1:(((ld x).toNat:Nat):Int)=ld x:=by omega
      have c2:(((ld y).toNat:Nat):Int)=ld y:=by omega
      have hh:=hin (ld x).toNat (ld y).toNat hpl hql (by rw [c1];exact h.ok.sym x px (by omega)) (by rw [c2];exact h.ok.sym y po (by omega)) (by rw [c1,c2];exact hpp)
      have hh1:at' J (ld x)=at' J (ld y):=by have:=hh.1;rwa [c1,c2] at this
      refine ih _ _ _ (S5 h1 h2 h3 hh1) (hun _ _ hpp) (fun r hr=>?_)
      rcases List.mem_append.1 hr with e | e
      ·unfold kidPairs at e
       rw [List.mem_reverse] at e
       obtain ⟨i,hi,he⟩:=List.getElem_of_mem e
       rw [List.getElem_zip] at he
       have l1:(kidsL L J (ld x).toNat).length=arN L (at' J ((ld x).toNat:Nat)):=starts_length _ _ _ _
       rw [List.length_zip] at hi
       have hi1:i<arN L (at' J ((ld x).toNat:Nat)):=by omega
       have k1:=kids_at (L:=L) (J:=J) (p:=(ld x).toNat) hi1
       have k2:=kids_at (L:=L) (J:=J) (p:=(ld y).toNat) (i:=i) (by rw [c2,← hh1,← c1];exact hi1)
       rw [List.getElem?_eq_getElem (by omega),Option.some.injEq] at k1
       rw [List.getElem?_eq_getElem (by omega),Option.some.injEq] at k2
       rw [k1,k2] at he
       rw [← he]
       exact hh.2 i hi1
      ·exact hp2 r e
end Go.Proofs.YtmjgnfkbnofjoaaGreatDoor
namespace Go.Proofs.YtmjgnfkbnofjoaaGreatDoor
set_option maxRecDepth 100000
set_option linter.unusedVariables false
open Go.RowKit
attribute [local go_sem ↓] Go.wp_at_zero Go.wp_at_succ
def ptN (ap:Bool) (N x:Nat):Int:=if x<N then (x:Int) else if ap=true∧(x-N) % 2=1 then -(((x-N) / 2:Nat):Int)-100 else -(((x-N) / 2:Nat):Int)-1
def VNode (ap:Bool) (N x:Nat):Prop:=x<N∨(N≤x∧x<N+198∧(ap=true∨(x-N) % 2=0))
theorem pt_place {ap:Bool} {N x:Nat} (h:x<N):ptN ap N x=x:=by unfold ptN;rw [if_pos h]
theorem pt_neg {ap:Bool} {N x:Nat} (h:N≤x):ptN ap N x<0:=by
 unfold ptN;rw [if_neg (by omega)];split <;> omega
theorem pt_inj {ap:Bool} {N x y:Nat} (hx:VNode ap N x) (hy:VNode ap N y) (h:ptN ap N x=ptN ap N y):x=y:=by
 unfold ptN at h
 unfold VNode at hx hy
 by_cases h1:x<N
 ·rw [if_pos h1] at h
  by_cases h2:y<N
  ·rw [if_pos h2] at h;omega
  ·rw [if_neg h2] at h;split at h <;> omega
 ·rw [if_neg h1] at h
  by_cases h2:y<N
  ·rw [if_pos h2] at h;split at h <;> omega
  ·rw [if_neg h2] at h
   by_cases e1:ap=true∧(x-N) % 2=1
   ·rw [if_pos e1] at h
    by_cases e2:ap=true∧(y-N) % 2=1
    ·rw [if_pos e2] at h;omega
    ·rw [if_neg e2] at h;omega
   ·rw [if_neg e1] at h
    by_cases e2:ap=true∧(y-N) % 2=1
    ·rw [if_pos e2] at h;omega
    ·rw [if_neg e2] at h
     have a1:(x-N) % 2=0:=by
      rcases hx with q | ⟨_,_,q | q⟩
      ·omega
      ·by_cases z:(x-N) % 2=1
       ·exact absurd ⟨q,z⟩ e1
       ·omega
      ·exact q
     have a2:(y-N) % 2=0:=by
      rcases hy with q | ⟨_,_,q | q⟩
      ·omega
      ·by_cases z:(y-N) % 2=1
       ·exact absurd ⟨q,z⟩ e2
       ·omega
      ·exact q
     omega
structure NR (ap:Bool) (J:List Int) (up:Nat→Nat) (rep:Nat→Int) (cl:Nat→Nat) (ρ:Nat→Nat) (ld:Int→Int):Prop where
 node:∀ x,VNode ap J.length x→VNode ap J.length (up x)
 cnode:∀ x,VNode ap J.length x→VNode ap J.length (cl x)
 same:∀ x,VNode ap J.length x→cl (up x)=cl x
 idem:∀ x,VNode ap J.length x→cl (cl x)=cl x
 stop:∀ x,VNode ap J.length x→(up x=x ↔ cl x=x)
 down:∀ x,VNode ap J.length x→up x≠x→ρ (up x)<ρ x
 reps:∀ c,VNode ap J.length c→cl c=c→(rep c = -1∧J.length≤c)∨∃ p:Nat,rep c=p∧p<J.length∧cl p=c
 led:∀ x,VNode ap J.length x→ld (ptN ap J.length x)=if rep (cl x)<0 then ptN ap J.length (cl x) else rep (cl x)
theorem NR.eq {ap:Bool} {J:List Int} {up:Nat→Nat} {rep:Nat→Int} {cl ρ:Nat→Nat} {ld:Int→Int} (h:NR ap J up rep cl ρ ld) {x y:Nat} (hx:VNode ap J.length x) (hy:VNode ap J.length y):cl x=cl y ↔ ld (ptN ap J.length x)=ld (ptN ap J.length y):=by
 constructor
 ·intro e;rw [h.led x hx,h.led y hy,e]
 ·intro e
  rw [h.led x hx,h.led y hy] at e
  have cx:=h.cnode x hx
  have cy:=h.cnode y hy
  rcases h.reps _ cx (h.idem x hx) with ⟨a1,a2⟩ | ⟨p,a1,a2,a3⟩ <;> rcases h.reps _ cy (h.idem y hy) with ⟨b1,b2⟩ | ⟨q,b1,b2,b3⟩
  ·rw [if_pos (by omega),if_pos (by omega)] at e;exact pt_inj cx cy e
  ·have:=pt_neg (ap:=ap) a2
   rw [if_pos (by omega),if_neg (by omega)] at e;omega
  ·have:=pt_neg (ap:=ap) b2
   rw [if_neg (by omega),if_pos (by omega)] at e;omega
  ·rw [if_neg (by omega),if_neg (by omega)] at e
   have:p=q:=by omega
   subst this
   rw [← a3,← b3]
theorem NR.join {ap:Bool} {J:List Int} {up:Nat→Nat} {rep:Nat→Int} {cl ρ:Nat→Nat} {ld:Int→Int} (h:NR ap J up rep cl ρ ld) {p q:Nat} (hp:VNode ap J.length p) (hq:VNode ap J.length q) (lp:cl p=p) (lq:cl q=q) (hpq:p≠q) :
  ∃ cl' ρ', NR ap J (fun k=>if k=p then q else up k) (fun k=>if k=q then (if rep q<0 then rep p else rep q) else rep k) cl' ρ' (if rep p<0 then un (ptN ap J.length p) (if rep q<0 then ptN ap J.length q else rep q) ld else if rep q<0 then un (ptN ap J.length q) (rep p) ld else un (rep p) (rep q) ld):=by
 obtain ⟨cl', hcl⟩:∃ cl' : Nat→Nat,cl' = fun z=>if cl z=p then q else cl z:=⟨_,rfl⟩
 have c1:∀ z,cl z=p→cl' z=q:=fun z e=>by rw [hcl];simp only;rw [if_pos e]
 have c2:∀ z,cl z≠p→cl' z=cl z:=fun z e=>by rw [hcl];simp only;rw [if_neg e]
 have lqp:cl q≠p:=by rw [lq];exact fun e=>hpq e.symm
 have rp:=h.reps p hp lp
 have rq:=h.reps q hq lq
 refine ⟨cl', fun x=>ρ x+if cl x=p then ρ q+1 else 0,?_,?_,?_,?_,?_,?_,?_,?_⟩
 ·intro x hx
  by_cases e:x=p
  ·simp only [e,if_true];exact hq
  ·simp only [e,if_false];exact h.node x hx
 ·intro x hx
  by_cases e:cl x=p
  ·rw [c1 x e];exact hq
  ·rw [c2 x e];exact h.cnode x hx
 ·intro x hx
  by_cases e:x=p
  ·simp only [e,if_true];rw [c2 q lqp,c1 p lp,lq]
  ·simp only [e,if_false]
   have:=h.same x hx
   rw [hcl];simp only;rw [this]
 ·intro x hx
  by_cases e:cl x=p
  ·rw [c1 x e,c2 q lqp,lq]
  ·rw [c2 x e,c2 (cl x) (by rw [h.idem x hx];exact e),h.idem x hx]
 ·intro x hx
  by_cases e:x=p
  ·simp only [e,if_true];rw [c1 p lp]
  ·simp only [e,if_false]
   by_cases f:cl x=p
   ·rw [c1 x f]
    refine ⟨fun g=>?_,fun g=>?_⟩
    ·have:=(h.stop x hx).1 g;rw [f] at this;exact absurd this.symm e
    ·rw [← g,lq] at f;exact absurd f.symm hpq
   ·rw [c2 x f];exact h.stop x hx
 ·intro x hx
  by_cases e:x=p
  ·simp only [e,if_true];intro _;rw [if_neg lqp,if_pos lp];omega
  ·simp only [e,if_false]
   intro hn
   have:=h.down x hx hn
   rw [h.same x hx];omega
 ·intro c hc lc
  have hcp:cl c≠p:=fun e=>by rw [c1 c e] at lc;subst lc;exact lqp e
  rw [c2 c hcp] at lc
  by_cases e:c=q
  ·subst e
   simp only [if_true]
   rcases rq with ⟨b1,b2⟩ | ⟨y,b1,b2,b3⟩
   ·rw [if_pos (by omega)]
    rcases rp with ⟨a1,a2⟩ | ⟨x,a1,a2,a3⟩
    ·exact .inl ⟨a1,b2⟩
    ·exact .inr ⟨x,a1,a2,c1 x a3⟩
   ·rw [if_neg (by omega)]
    exact .inr ⟨y,b1,b2,by rw [c2 y (by rw [b3];exact fun e=>hpq e.symm)];exact b3⟩
  ·simp only [e,if_false]
   rcases h.reps c hc lc with a | ⟨x,a1,a2,a3⟩
   ·exact .inl a
   ·have:c≠p:=fun f=>by rw [f,lp] at hcp;exact hcp rfl
    exact .inr ⟨x,a1,a2,by rw [c2 x (by rw [a3];exact this)];exact a3⟩
 ·intro x hx
  have hl:=h.led x hx
  have lq' := h.led q hq
  have lp' := h.led p hp
  rw [lq] at lq'
  rw [lp] at lp'
  have inj:∀ y,VNode ap J.length y→(ld (ptN ap J.length x)=ld (ptN ap J.length y) ↔ cl x=cl y):=fun y hy=>(h.eq hx hy).symm
  have ip:=inj p hp
  have iq:=inj q hq
  rw [lp] at ip
  rw [lq] at iq
  have new:(if (fun k=>if k=q then (if rep q<0 then rep p else rep q) else rep k) (cl' x)<0 then ptN ap J.length (cl' x) else (fun k=>if k=q then (if rep q<0 then rep p else rep q) else rep k) (cl' x))=if cl x=p∨cl x=q then (if (if rep q<0 then rep p else rep q)<0 then ptN ap J.length q else (if rep q<0 then rep p else rep q)) else ld (ptN ap J.length x):=by
   by_cases e1:cl x=p
   ·simp only [c1 x e1,e1,true_or,if_true]
   ·by_cases e2:cl x=q
    ·have e3:cl' x=q:=by rw [c2 x e1,e2]
     simp only [e3,e2,or_true,if_true]
    ·have e3:cl' x=cl x:=c2 x e1
     simp only [e3,e1,e2,or_self,if_false];exact hl.symm
  rw [new]
  have key:∀ (u v:Int),(u=ld (ptN ap J.length p)∧v=ld (ptN ap J.length q)∨u=ld (ptN ap J.length q)∧v=ld (ptN ap J.length p))→un u v ld (ptN ap J.length x)=if cl x=p∨cl x=q then v else ld (ptN ap J.length x):=by
   intro u v huv
   unfold un
   rcases huv with ⟨rfl,rfl⟩ | ⟨rfl,rfl⟩
   ·by_cases e1:cl x=p
    ·rw [if_pos (ip.2 e1),if_pos (.inl e1)]
    ·rw [if_neg (fun f=>e1 (ip.1 f))]
     by_cases e2:cl x=q
     ·rw [if_pos (.inr e2)];exact iq.2 e2
     ·rw [if_neg (by rintro (f | f);exact e1 f;exact e2 f)]
   ·by_cases e2:cl x=q
    ·rw [if_pos (iq.2 e2),if_pos (.inr e2)]
    ·rw [if_neg (fun f=>e2 (iq.1 f))]
     by_cases e1:cl x=p
     ·rw [if_pos (.inl e1)];exact ip.2 e1
     ·rw [if_neg (by rintro (f | f);exact e1 f;exact e2 f)]
  by_cases hf:rep p<0
  ·rw [if_pos hf] at lp' ⊢
   by_cases hg:rep q<0
   ·rw [if_pos hg] at lq' ⊢
    rw [if_pos hg,if_pos hf]
    exact key _ _ (.inl ⟨lp'.symm,lq'.symm⟩)
   ·rw [if_neg hg] at lq' ⊢
    rw [if_neg hg,if_neg hg]
    exact key _ _ (.inl ⟨lp'.symm,lq'.symm⟩)
  ·rw [if_neg hf] at lp' ⊢
   by_cases hg:rep q<0
   ·rw [if_pos hg] at lq' ⊢
    rw [if_pos hg,if_neg hf]
    exact key _ _ (.inr ⟨lq'.symm,lp'.symm⟩)
   ·rw [if_neg hg] at lq' ⊢
    rw [if_neg hg,if_neg hg]
    exact key _ _ (.inl ⟨lp'.symm,lq'.symm⟩)
structure NB where
 nb:Nat
 tb:Nat
 ab:Nat
 ub:Nat
 rb:Nat
 tc:Nat
 ac:Nat
 uc:Nat
 rc:Nat
 lv:Value
 top:Nat
def NB.Two (B:NB) (k:Nat):Prop:=k=B.ub∨k=B.rb
structure NC (L:List Sym) (B:NB) (w:World) (T J:List Int) (up:Nat→Nat) (rep:Nat→Int):Prop where
 blk:w.heap[B.nb]? = some (.cells #[B.lv,.slice (some ⟨B.tb,0,none⟩) J.length B.tc,.slice (some ⟨B.ab,0,none⟩) J.length B.ac,.slice (some ⟨B.ub,0,none⟩) (J.length+200) B.uc,.slice (some ⟨B.rb,0,none⟩) (J.length+200) B.rc] 341 (0,0))
 nums:Nums w B.tb J.length (fun i=>at' T i)
 args:∀ p,p<J.length→∃ go gc,w.cell? ⟨B.ab,p,none⟩=some (.slice go (kidsL L J p).length gc)∧IntsAt w go ((kidsL L J p).map (fun k:Nat=>(k:Int)))∧∀ a,go=some a→¬ B.Two a.block∧a.block<B.top
 alt:B.ab<w.heap.size
 ups:Nums w B.ub (J.length+200) (fun i=>(up i:Int))
 reps:Nums w B.rb (J.length+200) rep
 n1:¬ B.Two B.nb
 n2:¬ B.Two B.tb
 n3:¬ B.Two B.ab
 n4:B.ub≠B.rb
 t1:B.nb<B.top
 t2:B.tb<B.top
 t3:B.ab<B.top
 t4:B.ub<B.top
 t5:B.rb<B.top
theorem NC.kept {L:List Sym} {S:Nat→Prop} {w w' : World} {B:NB} {T J:List Int} {up:Nat→Nat} {rep:Nat→Int} (h:NC L B w T J up rep) (hk:Kept S w w') (hs:∀ k,k<B.top→¬ S k):NC L B w' T J up rep:=by
 refine ⟨hk.at h.blk (hs _ h.t1),h.nums.kept hk (hs _ h.t2),fun p hp=>?_,Nat.lt_of_lt_of_le h.alt hk.size,h.ups.kept hk (hs _ h.t4),h.reps.kept hk (hs _ h.t5),h.n1,h.n2,h.n3,h.n4,h.t1,h.t2,h.t3,h.t4,h.t5⟩
 obtain ⟨go,gc,a1,a2,a3⟩:=h.args p hp
 exact ⟨go,gc,(hk.cell (p:=⟨B.ab,p,none⟩) h.alt (hs _ h.t3)).trans a1,a2.kept hk (fun a e=>hs _ (a3 a e).2),a3⟩
theorem NC.same {L:List Sym} {w w' : World} {B:NB} {T J:List Int} {up:Nat→Nat} {rep:Nat→Int} (h:NC L B w T J up rep) (hk:Same0 w w'):NC L B w' T J up rep:=h.kept hk (fun _ _ f=>f)
theorem NC.two {L:List Sym} {w w' : World} {B:NB} {T J:List Int} {up up' : Nat→Nat} {rep rep' : Nat→Int} (h:NC L B w T J up rep) (hk:Kept B.Two w w') (h1:Nums w' B.ub (J.length+200) (fun i=>(up' i:Int))) (h2:Nums w' B.rb (J.length+200) rep'):NC L B w' T J up' rep' := by
 refine ⟨hk.at h.blk h.n1,h.nums.kept hk h.n2,fun p hp=>?_,Nat.lt_of_lt_of_le h.alt hk.size,h1,h2,h.n1,h.n2,h.n3,h.n4,h.t1,h.t2,h.t3,h.t4,h.t5⟩
 obtain ⟨go,gc,a1,a2,a3⟩:=h.args p hp
 exact ⟨go,gc,(hk.cell (p:=⟨B.ab,p,none⟩) h.alt h.n3).trans a1,a2.kept hk (fun a e=>(a3 a e).1),a3⟩
theorem NC.cells {L:List Sym} {w:World} {B:NB} {T J:List Int} {up:Nat→Nat} {rep:Nat→Int} (h:NC L B w T J up rep):w.cell? ⟨B.nb,1,none⟩=some (.slice (some ⟨B.tb,0,none⟩) J.length B.tc)∧w.cell? ⟨B.nb,2,none⟩=some (.slice (some ⟨B.ab,0,none⟩) J.length B.ac)∧w.cell? ⟨B.nb,3,none⟩=some (.slice (some ⟨B.ub,0,none⟩) (J.length+200) B.uc)∧w.cell? ⟨B.nb,4,none⟩=some (.slice (some ⟨B.rb,0,none⟩) (J.length+200) B.rc):=
 ⟨cellAt h.blk 1,cellAt h.blk 2,cellAt h.blk 3,cellAt h.blk 4⟩
theorem vn_lt {ap:Bool} {N x:Nat} (h:VNode ap N x):x<N+200:=by unfold VNode at h;omega
set_option maxHeartbeats 1000000 in
theorem class_any {L:List Sym} {w:World} {B:NB} {T J:List Int} {up:Nat→Nat} {rep:Nat→Int} (h:NC L B w T J up rep) {ap:Bool} {cl ρ:Nat→Nat} {ld:Int→Int} (hr:NR ap J up rep cl ρ ld) {x:Nat} (hx:VNode ap J.length x) :
  Calls Tryz.prog 234 #[.pointer (some ⟨B.nb,0,none⟩),.int .i64 (x:Int)] w fun e w' => e=.returned (.int .i64 (cl x:Int))∧w' = w:=by
 obtain ⟨c1,c2,c3,c4⟩:=h.cells
 have hU:=h.ups
 clear h
 go_enter Tryz.func234,Tryz.ntmps234
 go_wp2_with fail
 go_loopw [1] (fun tp wr=>∃ y:Nat,tp=.int .i64 (y:Int)∧VNode ap J.length y∧cl y=cl x∧wr=w) (fun tp _=>ρ (intOf tp).toNat)
 case atStart=>exact ⟨x,rfl,hx,rfl,rfl⟩
 case round=>
  obtain ⟨y,rfl,hy,hyx,rfl⟩:=hrel
  have hlt:=vn_lt hy
  have cu:=(hU.cell hlt).1
  have i1:(0:Int)≤(y:Int):=by omega
  have i2:(y:Int)<(J.length:Int)+200:=by omega
  have i3:(y:Int)<((J.length+200:Nat):Int):=by omega
  by_cases hn:up y=y
  ·have e1:cl x=y:=by rw [← hyx];exact (hr.stop y hy).1 hn
   rw [hn] at cu
   clear hr hU
   go_wp2_with fail
   go_returns
   exact ⟨by rw [e1];rfl,rfl⟩
  ·have hd:=hr.down y hy hn
   have hv:=hr.node y hy
   have hs:=hr.same y hy
   have hni:¬ (up y:Int)=(y:Int):=by omega
   clear hr hU
   go_wp2_with fail
   go_roundw
   case rel=>exact ⟨up y,rfl,hv,by rw [hs];exact hyx,(by first | rfl | trivial)⟩
   case measure=>simpa [intOf] using hd
end Go.Proofs.YtmjgnfkbnofjoaaGreatDoor
namespace Go.Proofs.YtmjgnfkbnofjoaaGreatDoor
set_option linter.unusedVariables false
open Go.RowKit
attribute [local go_sem ↓] Go.wp_at_zero Go.wp_at_succ
def turnCells (l:List (Nat × Nat)):List Value:=l.flatMap fun x=>[.int .i64 (x.1:Int),.int .i64 (x.2:Int)]
theorem turnCells_length (l:List (Nat × Nat)):(turnCells l).length=l.length * 2:=by
 induction l with
 | nil=>rfl
 | cons x r ih=>simp [turnCells] at ih ⊢;omega
theorem turnCells_append (a b:List (Nat × Nat)):turnCells (a++b)=turnCells a++turnCells b:=by simp [turnCells]
theorem turnCells_at {l:List (Nat × Nat)} {i:Nat} (h:i<l.length):(turnCells l)[i * 2]? = some (.int .i64 (l[i].1:Int))∧(turnCells l)[i * 2+1]? = some (.int .i64 (l[i].2:Int)):=by
 induction l generalizing i with
 | nil=>simp at h
 | cons x r ih=>
  have e:turnCells (x :: r)=.int .i64 (x.1:Int) :: .int .i64 (x.2:Int) :: turnCells r:=by simp [turnCells]
  rw [e]
  cases i with
  | zero=>simp
  | succ j=>
   have:=ih (i:=j) (by simpa using h)
   rw [show (j+1) * 2=j * 2+1+1 by omega]
   simpa using this
theorem info_turn:(Tryz.prog.info? 351).map (fun i=>(i.zero,i.size,i.bytes))=some (some (.agg #[.int .i64 0,.int .i64 0]),2,16):=by kernel_rfl
def Fine (st:List (Nat × Nat)):Prop:=∀ x∈st,x.1<x.2∧x.2≤6
theorem bump_fine {st:List (Nat × Nat)} (h:Fine st):Fine (bump st):=by
 induction st with
 | nil=>exact h
 | cons x r ih=>
  obtain ⟨j,a⟩:=x
  have hx:=h (j,a) (by simp)
  have hr:Fine r:=fun y hy=>h y (by simp [hy])
  unfold bump
  split
  ·intro y hy
   rcases List.mem_cons.1 hy with rfl | hy
   ·exact ⟨by simpa using (by assumption:j+1<a),hx.2⟩
   ·exact hr y hy
  ·exact ih hr
theorem pass_fine {st:List (Nat × Nat)} (h:Fine st) {a:Nat} (ha:a≤6):Fine (pass st a):=by
 unfold pass
 split
 ·intro y hy
  rcases List.mem_cons.1 hy with rfl | hy
  ·exact ⟨by assumption,ha⟩
  ·exact h y hy
 ·exact bump_fine h
theorem bump_length (st:List (Nat × Nat)):(bump st).length≤st.length:=by
 induction st with
 | nil=>simp [bump]
 | cons x r ih=>
  obtain ⟨j,a⟩:=x
  unfold bump
  split
  ·simp
  ·simp;omega
theorem pass_length (st:List (Nat × Nat)) (a:Nat):(pass st a).length≤st.length+1:=by
 unfold pass
 split
 ·simp
 ·have:=bump_length st;omega
structure TrailAt (base:Nat) (w:World) (a:Nat) (v:Value) (st:List (Nat × Nat)):Prop where
 blk:w.heap[a]? = some (.cells #[v] 331 (0,0))
 row:w.ownsRow base 351 2 v st.length (turnCells st.reverse)
 ap:v.ownBlock≠some a
 fine:Fine st
 len:st.length≤2000
def TFoot (a:Nat) (v:Value) (k:Nat):Prop:=k=a∨v.ownBlock=some k
theorem TrailAt.same {base:Nat} {w w' : World} {a:Nat} {v:Value} {st:List (Nat × Nat)} (h:TrailAt base w a v st) (k:Same0 w w'):TrailAt base w' a v st:=
 ⟨k.at h.blk (fun f=>f),Kept.row k h.row (fun _ _ f=>f),h.ap,h.fine,h.len⟩
theorem row_take {w:World} {base g n cap size m:Nat} {e:TypeId} {xs:List Value} (h:w.ownsRow base e size (.slice (some ⟨g,0,none⟩) n cap) n xs) (hm:m≤n):w.ownsRow base e size (.slice (some ⟨g,0,none⟩) m cap) m (xs.take (m * size)):=by
 have hl:=h.1
 have hmn:m * size≤n * size:=Nat.mul_le_mul_right _ hm
 refine ⟨by rw [List.length_take,hl];omega,?_⟩
 rcases h.2 with ⟨e1,_⟩ | ⟨g', cap', cur,hv,hb,hg,h1,h2,h3,h4⟩
 ·cases e1
 ·simp only [Value.slice.injEq,Option.some.injEq,Addr.mk.injEq,and_true,true_and] at hv
  obtain ⟨rfl,rfl⟩:=hv
  exact .inr ⟨g,cap,cur,rfl,hb,hg,by omega,h2,h3,by rw [← h4,List.take_take,Nat.min_eq_left hmn]⟩
def Passed (base:Nat) (w:World) (a:Nat) (v:Value) (st' : List (Nat × Nat)) (w' : World):Prop:=∃ v', TrailAt base w' a v' st' ∧ Kept (TFoot a v) w w' ∧ ∀ k,TFoot a v' k→TFoot a v k∨w.heap.size≤k
structure Popped (base:Nat) (w:World) (a:Nat) (v0:Value) (st0:List (Nat × Nat)) (wr:World) (v:Value) (st:List (Nat × Nat)):Prop where
 tr:TrailAt base wr a v st
 k:Kept (TFoot a v0) w wr
 f:∀ k,TFoot a v k→TFoot a v0 k
 eq:Hid (bump st=bump st0)
theorem Popped.step {base:Nat} {w:World} {a g cap:Nat} {v0:Value} {st0:List (Nat × Nat)} {wr:World} {j n:Nat} {r:List (Nat × Nat)} (h:Popped base w a v0 st0 wr (.slice (some ⟨g,0,none⟩) (r.length+1) cap) ((j,n) :: r)) :
  (j+1<n→TrailAt base (wr.setCell ⟨g,r.length * 2,none⟩ (.int .i64 ((j:Int)+1))) a (.slice (some ⟨g,0,none⟩) (r.length+1) cap) (bump st0)∧Kept (TFoot a v0) w (wr.setCell ⟨g,r.length * 2,none⟩ (.int .i64 ((j:Int)+1)))∧∀ k,TFoot a (.slice (some ⟨g,0,none⟩) (r.length+1) cap) k→TFoot a v0 k) ∧
  (¬ j+1<n→Popped base w a v0 st0 ((wr.setCell ⟨g,r.length * 2,none⟩ (.int .i64 ((j:Int)+1))).setCell ⟨a,0,none⟩ (.slice (some ⟨g,0,none⟩) r.length cap)) (.slice (some ⟨g,0,none⟩) r.length cap) r):=by
 have hga:g≠a:=fun e=>h.tr.ap (by rw [e];rfl)
 have k1:Kept (TFoot a v0) w (wr.setCell ⟨g,r.length * 2,none⟩ (.int .i64 ((j:Int)+1))):=h.k.setCell (p:=⟨g,r.length * 2,none⟩) (fun _=>h.f g (.inr rfl)) _
 have hrow:=h.tr.row
 have hx:turnCells ((j,n) :: r).reverse=turnCells r.reverse ++ [.int .i64 (j:Int),.int .i64 (n:Int)]:=by
  rw [List.reverse_cons,turnCells_append];simp [turnCells]
 have hl2:(turnCells r.reverse).length=r.length * 2:=by rw [turnCells_length,List.length_reverse]
 rw [hx] at hrow
 have hs:=(hrow.stored (r.length * 2) (.int .i64 ((j:Int)+1))).1
 have hset:(turnCells r.reverse ++ [Value.int .i64 (j:Int),.int .i64 (n:Int)]).set (r.length * 2) (.int .i64 ((j:Int)+1))=turnCells r.reverse ++ [.int .i64 ((j:Int)+1),.int .i64 (n:Int)]:=by
  rw [← hl2,List.set_append_right _ _ (Nat.le_refl _)];simp
 rw [hset] at hs
 have hb:(wr.setCell ⟨g,r.length * 2,none⟩ (.int .i64 ((j:Int)+1))).heap[a]? = some (.cells #[.slice (some ⟨g,0,none⟩) (r.length+1) cap] 331 (0,0)):=by
  rw [Below.heap_setCell _ _ _ _ (by simpa using (Ne.symm hga))]
  exact h.tr.blk
 have hfr:Fine r:=fun y hy=>h.tr.fine y (by simp [hy])
 have hlr:r.length≤2000:=by have:=h.tr.len;simp at this;omega
 have hf0:=h.tr.fine (j,n) (by simp)
 constructor
 ·intro hj
  have e1:bump st0=(j+1,n) :: r:=by rw [← h.eq.out,bump,if_pos hj]
  rw [e1]
  refine ⟨⟨hb,?_,h.tr.ap,?_,by simpa using h.tr.len⟩,k1,h.f⟩
  ·have:turnCells ((j+1,n) :: r).reverse=turnCells r.reverse ++ [.int .i64 ((j:Int)+1),.int .i64 (n:Int)]:=by
    rw [List.reverse_cons,turnCells_append];simp [turnCells]
   rw [this];exact hs
  ·intro y hy
   rcases List.mem_cons.1 hy with rfl | hy
   ·exact ⟨hj,hf0.2⟩
   ·exact hfr y hy
 ·intro hj
  have e1:bump r=bump st0:=by rw [← h.eq.out,bump,if_neg hj]
  have ht:=row_take (m:=r.length) hs (by omega)
  rw [List.take_left' (by rw [hl2])] at ht
  have k2:Kept (fun k=>k=a) (wr.setCell ⟨g,r.length * 2,none⟩ (.int .i64 ((j:Int)+1))) ((wr.setCell ⟨g,r.length * 2,none⟩ (.int .i64 ((j:Int)+1))).setCell ⟨a,0,none⟩ (.slice (some ⟨g,0,none⟩) r.length cap)):=Kept.setCell (S:=fun k=>k=a) (p:=⟨a,0,none⟩) (Kept.refl _ _) (fun _=>rfl) _
  refine ⟨⟨?_,?_,by simpa [Value.ownBlock] using hga,hfr,hlr⟩,k1.setCell (p:=⟨a,0,none⟩) (fun _=>.inl rfl) _,fun k hk=>h.f k hk,e1⟩
  ·rw [setAt hb];rfl
  ·exact k2.row ht (fun k e e' => by simp [Value.ownBlock] at e;omega)
theorem Popped.cells {base:Nat} {w:World} {a:Nat} {v0 v:Value} {st0:List (Nat × Nat)} {wr:World} {j n:Nat} {r:List (Nat × Nat)} (h:Popped base w a v0 st0 wr v ((j,n) :: r)) :
  ∃ g cap,v=.slice (some ⟨g,0,none⟩) (r.length+1) cap∧g≠a∧wr.cell? ⟨a,0,none⟩=some v∧wr.frozen? ⟨a,0,none⟩=false∧wr.cell? ⟨g,r.length * 2,none⟩=some (.int .i64 (j:Int))∧wr.cell? ⟨g,r.length * 2+1,none⟩=some (.int .i64 (n:Int))∧wr.frozen? ⟨g,r.length * 2,none⟩=false∧g<wr.heap.size:=by
 obtain ⟨g,cap,hv,_,hlt⟩:=h.tr.row.form (by simp)
 subst hv
 have hga:g≠a:=fun e=>h.tr.ap (by rw [e];rfl)
 have hrow:=h.tr.row
 have hi:r.length<((j,n) :: r).reverse.length:=by simp
 obtain ⟨c1,c2⟩:=turnCells_at hi
 have e:((j,n) :: r).reverse[r.length]=(j,n):=by simp
 rw [e] at c1 c2
 refine ⟨g,cap,rfl,hga,cellAt h.tr.blk 0,frozenAt h.tr.blk 0,?_,?_,hrow.frozenAt _,hlt⟩
 ·rw [hrow.cellAt _ (by simp)];exact c1
 ·rw [hrow.cellAt _ (by simp;omega)];exact c2
theorem Passed.same {base:Nat} {w w' w'' : World} {a:Nat} {v:Value} {st:List (Nat × Nat)} (h:Passed base w a v st w') (k:Same0 w' w''):Passed base w a v st w'' := by
 obtain ⟨v', h1,h2,h3⟩:=h
 exact ⟨v', h1.same k,h2.trans k (fun _ _ f=>f.elim),h3⟩
theorem Popped.same {base:Nat} {w:World} {a:Nat} {v0 v:Value} {st0 st:List (Nat × Nat)} {wr wr' : World} (h:Popped base w a v0 st0 wr v st) (k:Same0 wr wr'):Popped base w a v0 st0 wr' v st:=
 ⟨h.tr.same k,h.k.trans k (fun _ _ f=>f.elim),h.f,h.eq⟩
theorem push_end {base:Nat} {w w1:World} {a n gg cap:Nat} {v:Value} {st:List (Nat × Nat)} (h:TrailAt base w a v st) (hb:base≤w.heap.size) (hn:0<n) (hn6:n≤6) (hl:st.length<2000)
  (hown:w1.ownsRow base 351 2 (.slice (some ⟨gg,0,none⟩) (st.length+1) cap) (st.length+1) (turnCells st.reverse ++ [.int .i64 0,.int .i64 (n:Int)]))
  (hgrow:(w.alloc (.cells #[.int .i64 0,.int .i64 (n:Int)] 351)).grownBy w1 v.ownBlock) (hat:v.ownBlock=some gg∨gg=w.heap.size+1) :
  (w1.heap[a]? = some (.cells #[v] 331 (0,0)))∧Passed base w a v (pass st n) (w1.setCell ⟨a,0,none⟩ (.slice (some ⟨gg,0,none⟩) (st.length+1) cap)):=by
 have la:=lt_of_at h.blk
 have k1:Kept (fun k=>v.ownBlock=some k) w w1:=Kept.grown (Kept.alloc (Kept.refl _ w) _) hgrow (fun _ e _=>e)
 have hb1:=k1.at h.blk h.ap
 have hga:gg≠a:=by
  rcases hat with e | e
  ·intro e'; exact h.ap (by rw [e,e'])
  ·omega
 have k2:Kept (TFoot a v) w (w1.setCell ⟨a,0,none⟩ (.slice (some ⟨gg,0,none⟩) (st.length+1) cap)):=(k1.mono (fun _ _ e=>.inr e)).setCell (p:=⟨a,0,none⟩) (fun _=>.inl rfl) _
 have k3:Kept (fun k=>k=a) w1 (w1.setCell ⟨a,0,none⟩ (.slice (some ⟨gg,0,none⟩) (st.length+1) cap)):=Kept.setCell (S:=fun k=>k=a) (p:=⟨a,0,none⟩) (Kept.refl _ _) (fun _=>rfl) _
 have e1:pass st n=(0,n) :: st:=by rw [pass,if_pos hn]
 refine ⟨hb1,.slice (some ⟨gg,0,none⟩) (st.length+1) cap,⟨?_,?_,by simpa [Value.ownBlock] using hga,pass_fine h.fine hn6,?_⟩,k2,?_⟩
 ·rw [setAt hb1];rfl
 ·rw [e1]
  have:turnCells ((0,n) :: st).reverse=turnCells st.reverse ++ [.int .i64 0,.int .i64 (n:Int)]:=by
   rw [List.reverse_cons,turnCells_append];simp [turnCells]
  rw [this]
  exact k3.row hown (fun k e e' => by simp [Value.ownBlock] at e;omega)
 ·rw [e1];simp;omega
 ·intro k hk
  rcases hk with e | e
  ·exact .inl (.inl e)
  ·simp [Value.ownBlock] at e
   subst e
   rcases hat with e | e
   ·exact .inl (.inr e)
   ·right;omega
set_option maxHeartbeats 4000000 in
theorem pass_any {base:Nat} {w:World} {a:Nat} {v:Value} {st:List (Nat × Nat)} (h:TrailAt base w a v st) (hb:base≤w.heap.size) (n:Nat) (hn6:n≤6) (hl:st.length<2000) :
  Calls Tryz.prog 217 #[.pointer (some ⟨a,0,none⟩),.int .i64 (n:Int)] w fun e w' => (∃ x,e=.returned x)∧Passed base w a v (pass st n) w' := by
 obtain ⟨vo,vcap,rfl⟩:=row_shape h.row
 have c0:=cellAt h.blk 0
 have f0:=frozenAt h.blk 0
 simp only [List.getElem?_toArray,List.getElem?_cons_zero] at c0
 by_cases hn:0<n
 ·obtain ⟨i0,hi0,hz0,hz1,hz2⟩:=info_parts info_turn
  have hn1:st.length+1≤maxLen:=by unfold maxLen;omega
  have hn2:(st.length+1) * 16≤140737488355328:=by omega
  have hb' : base≤(w.alloc (.cells #[.int .i64 0,.int .i64 (n:Int)] 351)).heap.size:=by simp;omega
  have hnn:(0:Int)<(n:Int):=by omega
  have PE:=fun gg cap w1 hown hgrow hat=>push_end (gg:=gg) (cap:=cap) (w1:=w1) h hb hn hn6 hl hown hgrow hat
  go_enter Tryz.func217,Tryz.ntmps217
  go_wp2_with (first | (at_builtin;refine wpList_append_lies _ rfl _ _ 331 rfl base 351 i0 _ 2 16 Tryz.underlying331 hi0 hz0 hz1 hz2 rfl (by omega) (.slice vo st.length vcap) st.length (turnCells st.reverse) rfl (h.row.alloc _) ⟨w.heap.size,0,none⟩ 1 1 [.int .i64 0,.int .i64 (n:Int)] rfl rfl (World.news_of_block (cs:=#[.int .i64 0,.int .i64 (n:Int)]) (t:=351) (fr:=(0,0)) (heap_alloc_new w _)) (by simp [Value.oneCell']) (by omega) hn1 hn2 hb' (w.heap.size+1) (by simp) ?_;intro gg cap w1 hown hgrow hat hlt;obtain ⟨b1,hP⟩:=PE gg cap w1 hown hgrow hat;have k0:=cellAt b1 0;have k1:=frozenAt b1 0;simp only [List.getElem?_toArray,List.getElem?_cons_zero] at k0))
  go_returns
  exact ⟨⟨_,rfl⟩,hP⟩
 ·obtain rfl:n=0:=by omega
  have e0:Hid (pass st 0=bump st):=by show _=_;simp [pass]
  have P0:Popped base w a (.slice vo st.length vcap) st w (.slice vo st.length vcap) st:=⟨h,Kept.refl _ _,fun k hk=>hk,rfl⟩
  clear h
  go_enter Tryz.func217,Tryz.ntmps217
  go_wp2
  go_loopw [4] (fun tp wr=>∃ v' st', tp=.int .i64 ((st'.length:Int)-1)∧Popped base w a (.slice vo st.length vcap) st wr v' st') (fun tp _=>(intOf tp+1).toNat)
  case atStart=>exact ⟨_,st,rfl,P0⟩
  case round=>
   obtain ⟨v', st', rfl,hP⟩:=hrel
   cases st' with
   | nil=>
    have e1:bump st=[]:=by have:=hP.eq.out;rw [← this];rfl
    have fin:Passed base w a (.slice vo st.length vcap) (pass st 0) wr:=by
     rw [e0.out,e1]
     exact ⟨v', hP.tr,hP.k,fun k hk=>.inl (hP.f k hk)⟩
    clear hP e1
    go_wp2
    go_returns
    exact ⟨⟨_,rfl⟩,fin⟩
   | cons x r=>
    obtain ⟨j,n⟩:=x
    obtain ⟨g,cap,rfl,hga,q0,q1,q2,q3,q4,q5⟩:=hP.cells
    have hjn:=hP.tr.fine (j,n) (by simp)
    have hrl:=hP.tr.len
    obtain ⟨s1,s2⟩:=hP.step
    have hl1:(((j,n) :: r).length:Int)-1=(r.length:Int):=by simp
    rw [hl1]
    have i1:(0:Int)≤(r.length:Int):=by omega
    have i2:(r.length:Int)<((r.length+1:Nat):Int):=by omega
    simp only at hjn
    simp at hrl
    by_cases hj:j+1<n
    ·obtain ⟨t1,t2,t3⟩:=s1 hj
     have fin:Passed base w a (.slice vo st.length vcap) (pass st 0) (wr.setCell ⟨g,r.length * 2,none⟩ (.int .i64 ((j:Int)+1))):=by
      rw [e0.out]
      exact ⟨_,t1,t2,fun k hk=>.inl (t3 k hk)⟩
     have hji:(j:Int)+1<(n:Int):=by omega
     clear s1 s2 hP t1 t2 t3
     go_wp2
     go_quiet (fail)
     go_wp2
     go_returns
     exact ⟨⟨_,rfl⟩,fin.same ((Kept.refl _ _).drewN nq)⟩
    ·have hP2:=s2 hj
     have hji:¬ (j:Int)+1<(n:Int):=by omega
     have i3:(r.length:Int)≤(cap:Int):=by
      rcases hP.tr.row.2 with ⟨e,_⟩ | ⟨_,_,_,hv,_,_,hle,_⟩
      ·cases e
      ·simp only [Value.slice.injEq] at hv
       have:=hv.2.2
       simp at hle
       omega
     clear s1 s2 hP
     go_wp2
     go_quiet (fail)
     go_wp2
     have hP3:=hP2.same ((Kept.refl _ _).drewN nq)
     go_roundw
     case rel=>first | exact ⟨_,r,by go_num,hP3⟩ | ((repeat apply Exists.intro);exact ⟨⟨_,r,by go_num,hP3⟩,rfl⟩)
     case measure=>simp [intOf]
end Go.Proofs.YtmjgnfkbnofjoaaGreatDoor
