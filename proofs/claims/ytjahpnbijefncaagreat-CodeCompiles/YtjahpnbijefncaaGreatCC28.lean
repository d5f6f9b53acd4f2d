import Derived.WalkKit
import Derived.Test.YtjahpnbijefncaaGreatCC27
namespace Go.Proofs.YtjahpnbijefncaaGreat
set_option maxRecDepth 100000
set_option linter.unusedVariables false
set_option maxHeartbeats 32000000
section
open Go.RowKit
attribute [local go_sem ↓] Go.wp_at_zero Go.wp_at_succ
abbrev L9x:List Sym:=[⟨⟨#[122]⟩,0,false⟩,⟨⟨#[115]⟩,1,false⟩,⟨⟨#[97,100,100]⟩,2,true⟩,⟨⟨#[104]⟩,0,true⟩]
theorem Zoz:Kt L9x=L9x:=by
 simp [Kt,Zkl,Zy,nm8_z,nm8_s,Zvf,nm8_h,Yz]
abbrev Zfb:Ru:=([2,0, -1],[-1])
abbrev Zf6:Ru:=([2,1, -1, -2],[1,2, -1, -2])
theorem aw9_a:Ans L9x [] [Zfb] []:=Ans.of_all (by decide +kernel)
theorem aw9_b:Ans L9x [Zfb] [Zf6] []:=Ans.of_all (by decide +kernel)
theorem aw9_R {R:List Ru} (h:X7 L9x [Zfb,Zf6] [] R):R=[Zfb,Zf6]:=by
 rcases h with ⟨_,h⟩ | ⟨h,_⟩
 ·rcases h with ⟨_,h⟩ | ⟨h,_⟩
  ·exact h
  ·exact absurd aw9_b h
 ·exact absurd aw9_a h
def Zwm (n:Nat):Tr (n+1):=(3,0,[],[])
theorem Zsr (n:Nat):Xf L9x (n+1+1) (V1 L9x 2) (Yq L9x [Zfb,Zf6] 2)=.ok (Zua n):=by rfl
theorem Zr6 (n:Nat):Xf L9x (n+1) (V1 L9x 3) (Yq L9x [Zfb,Zf6] 3)=.ok (Zwm n):=by rfl
theorem Zk0:X5 L9x [Zfb,Zf6] 2=.ok (Zua 1999):=Zsr 1999
theorem Zld:X5 L9x [Zfb,Zf6] 3=.ok (Zwm 2000):=Zr6 2000
abbrev ins9:List I3:=[(1,0,0),(2,0,4),(2,1,5),(3,0,0),(4,0,0),(4,1,0),(3,0,0)]
theorem Zva (n:Nat):Jc (n+1+1) (Zua n) ([],[])=([(1,0,0),(2,0,4),(2,1,5),(3,0,0),(4,0,0),(4,1,0)],[[0]]):=by rfl
theorem Ztq (n:Nat) (s:St9):Jc (n+1) (Zwm n) s=(s.1 ++ [(3,0,0)],s.2):=by rfl
theorem Zwv:Zk L9x [Zfb,Zf6] 4=((ins9,[[0]]),[-1, -1,0,6]):=by
 rw [Jy (k:=3) (by decide) Zld,Jy (k:=2) (by decide) Zk0,Za5 (k:=1) (by decide),Za5 (k:=0) (by decide)];have e1:Jc 2001 (Zua 1999) (Zk L9x [Zfb,Zf6] 0).1=_:=Zva 1999;have e2:=λ s=>Ztq 2000 s;rw [e1]
 erw [e2]
 rfl
theorem Zwq:∀ k,k<L9x.length->Y7 L9x (k:Int)=true->∃ t,X5 L9x [Zfb,Zf6] k=.ok t:=by
 intro k hk hd;have hk' : k<4:=hk
 match k,hk' with
 | 0,_=>exact absurd hd (by decide)
 | 1,_=>exact absurd hd (by decide)
 | 2,_=>exact ⟨_,Zk0⟩
 | 3,_=>exact ⟨_,Zld⟩
theorem Zvz:Zm8 L9x (Zoa L9x [2,1,0,0]) [2,1,0,0] ins9 [[0]] [-1, -1,0,6] 2 0=(1,1,[],0,0):=by decide +kernel
theorem Zv2:Jh 1 (Zj L9x [Zfb,Zf6]).length=true:=by decide +kernel
theorem Zww:∀ i (h:i<(Zj L9x [Zfb,Zf6]).length),(Zj L9x [Zfb,Zf6])[i].length<=140737488355328:=by
 intro i h;have h1:∀ q∈Zj L9x [Zfb,Zf6],q.length<=140737488355328:=by decide +kernel
 exact h1 _ (List.getElem_mem h)
theorem aw9_wt:wtN ((Zj L9x [Zfb,Zf6]).getD (1:Int).toNat [])=2:=by decide +kernel
theorem Zwe (w:World):Zaf (w.alloc (.cells #[.int .i64 1,.int .i64 0,.int .i64 0,.int .i64 2,.int .i64 0,.int .i64 4,.int .i64 2,.int .i64 1,.int .i64 5,.int .i64 3,.int .i64 0,.int .i64 0,.int .i64 4,.int .i64 0,.int .i64 0,.int .i64 4,.int .i64 1,.int .i64 0,.int .i64 3,.int .i64 0,.int .i64 0] 117)) (some ⟨w.heap.size,0,none⟩) ins9:=by
 refine .inr ⟨_,_,rfl,by simp,λ i hi=>?_⟩;have hi' : i<7:=by simpa using hi
 rw [Zb (heap_alloc_new w _),Zb (heap_alloc_new w _),Zb (heap_alloc_new w _)]
 match i,hi' with
 | 0,_=>exact ⟨rfl,rfl,rfl⟩
 | 1,_=>exact ⟨rfl,rfl,rfl⟩
 | 2,_=>exact ⟨rfl,rfl,rfl⟩
 | 3,_=>exact ⟨rfl,rfl,rfl⟩
 | 4,_=>exact ⟨rfl,rfl,rfl⟩
 | 5,_=>exact ⟨rfl,rfl,rfl⟩
 | 6,_=>exact ⟨rfl,rfl,rfl⟩
theorem Zs9 (w:World) (T:TypeId):Vi (w.alloc (.cells #[.string ⟨#[122]⟩,.int .i64 0,.bool false,.string ⟨#[115]⟩,.int .i64 1,.bool false,.string ⟨#[97,100,100]⟩,.int .i64 2,.bool true,.string ⟨#[104]⟩,.int .i64 0,.bool true] T)) (some ⟨w.heap.size,0,none⟩) 4 L9x:=by
 refine ⟨rfl,.inr ⟨_,_,rfl,by simp,λ i hi=>?_⟩,?_⟩
 ·have hi' : i<4:=by simpa using hi
  rw [Zb (heap_alloc_new w _),Zb (heap_alloc_new w _),Zb (heap_alloc_new w _)]
  match i,hi' with
  | 0,_=>exact ⟨rfl,rfl,rfl⟩
  | 1,_=>exact ⟨rfl,rfl,rfl⟩
  | 2,_=>exact ⟨rfl,rfl,rfl⟩
  | 3,_=>exact ⟨rfl,rfl,rfl⟩
 ·intro x hx
  simp at hx
  rcases hx with rfl | rfl | rfl | rfl <;> exact ⟨by decide +kernel,by decide +kernel⟩
theorem Zm3 (w:World):Calls Tryz.prog 45 #[] w λ e w' => ∃ g g', e=.returned (.tuple #[.slice (some ⟨g,0,none⟩) 4 4,.slice (some ⟨g', 0,none⟩) 2 2])∧Vi w' (some ⟨g,0,none⟩) 4 L9x∧V7 w' (some ⟨g', 0,none⟩) [Zfb,Zf6]∧Za w w' := by
 have S:=Zs9 w 129;have K:Za w (w.alloc (.cells #[.string ⟨#[122]⟩,.int .i64 0,.bool false,.string ⟨#[115]⟩,.int .i64 1,.bool false,.string ⟨#[97,100,100]⟩,.int .i64 2,.bool true,.string ⟨#[104]⟩,.int .i64 0,.bool true] 129)):=(Zc.refl _ w).alloc _;have RR:=rs_two (w.alloc (.cells #[.string ⟨#[122]⟩,.int .i64 0,.bool false,.string ⟨#[115]⟩,.int .i64 1,.bool false,.string ⟨#[97,100,100]⟩,.int .i64 2,.bool true,.string ⟨#[104]⟩,.int .i64 0,.bool true] 129)) [2,0, -1] [-1] [2,1, -1, -2] [1,2, -1, -2] 3 3 3 3 68 (by decide) (by decide) (by decide) (by decide) rfl rfl rfl rfl rfl;have HH:Hid _:=RR;have HS:Hid _:=S;clear RR S
 go_enter Tryz.func45,Tryz.ntmps45
 go_wp2
 go_ret2
 obtain ⟨r1,r2⟩:=HH.out;simp only [World.size_alloc] at r1 r2;exact ⟨_,_,rfl,Vi.same8 HS.out r2,r1,K.trans' r2⟩
theorem Zu6 (w:World):(binOp .neq 37 .nilIface .nilIface).run Tryz.prog w=.ok (.bool false) w:=by kernel_rfl
theorem Zwn {W:World} {k:Nat} (h:W.heap[k]? = some (.cells #[.int .i64 2,.int .i64 1,.int .i64 0,.int .i64 0] 3 (0,0))):Arg W (some ⟨k,0,none⟩) [2,1,0,0] 4:=by
 refine ⟨?_,Nat.le_refl _,(λ e=>by cases e),by decide⟩;refine .inr ⟨_,_,rfl,Zi h,λ i hi=>?_⟩;have hi' : i<4:=by simpa using hi
 rw [Zb h]
 match i,hi' with
 | 0,_=>rfl
 | 1,_=>rfl
 | 2,_=>rfl
 | 3,_=>rfl
theorem zf9 {W:World} {k:Nat} (h:W.heap[k]? = some (.cells #[.int .i64 0,.int .i64 0,.slice none 0 0,.int .i64 0] 85 (0,0))):W.cell? ⟨k,0,none⟩=some (.int .i64 0)∧W.cell? ⟨k,1,none⟩=some (.int .i64 0)∧W.cell? ⟨k,2,none⟩=some (.slice none 0 0)∧W.cell? ⟨k,3,none⟩=some (.int .i64 0)∧W.frozen? ⟨k,0,none⟩=false∧W.frozen? ⟨k,1,none⟩=false∧W.frozen? ⟨k,2,none⟩=false∧W.frozen? ⟨k,3,none⟩=false:=
 ⟨Zb h 0,Zb h 1,Zb h 2,Zb h 3,Zd h 0,Zd h 1,Zd h 2,Zd h 3⟩
theorem Znz (w:World):Calls Tryz.prog 13 #[] w λ e w' => e=.returned (.bool true)∧Za w w' := by
 have hnn:=Zu6;have hpn:=Zkc;have CP:=Zm3 w
 go_enter Tryz.func13,Tryz.ntmps13
 go_upto_region 2 with (first | (go_at_call 45;refine CP.mono ?_;rintro e w0 ⟨g,g', rfl,hsy,hru,K0⟩))
 have CS:=Zfi (cap:=4) (lc:=2) hsy (by decide) hru (by decide) (by decide);rw [Zoz] at CS;clear CP hsy hru
 go_upto_region 3 with (first | (go_at_call 7;refine CS.mono ?_;rintro e w1 ⟨bs,b,m,ro,rc,lv,vs,mv,ms,R,rfl,hT,hR⟩))
 obtain rfl:=aw9_R hR;have K1:Za w w1:=K0.trans' hT.same;have hst:=hT.st;clear CS hR K0 hT
 have CC:Calls Tryz.prog 14 #[.pointer (some ⟨b,0,none⟩)] w1 λ e w' => ∃ io ic po pc eo ec ro rc,e=.returned (.tuple #[.agg #[.slice io 7 ic,.slice po 1 pc,.slice eo 4 ec,.slice ro 2 rc],.nilIface])∧Hid (Zaf w' io ins9∧Zaq w' po [[0]]∧Zh w' eo [-1, -1,0,6]∧Zt4 w' ro (Zj L9x [Zfb,Zf6]))∧Za w1 w' := by
  refine (Zff hst Zwq).mono ?_;intro e w' h;have e4:Zk L9x [Zfb,Zf6] L9x.length=_:=Zwv;unfold Zfs at h;rw [e4] at h;obtain ⟨io,ic,po,pc,eo,ec,ro,rc,cs,rfl,hL,hE,hrr,hrt,k2⟩:=h;refine ⟨io,ic,po,pc,eo,ec,ro,rc,rfl,⟨hL.insAt,hL.pthAt,?_,hrt.rgAt hrr⟩,k2⟩;obtain ⟨eo', ec', e1,h1,_⟩:=hE.ints;cases e1;exact h1
 have HSG:Hid (∀ ww,Za w1 ww->Sg ww.heap.size ww bs L9x):=λ ww hk=>(hst.same hk).sig;clear hst
 go_upto_region 6 with (first | (go_at_call 14;refine CC.mono ?_;rintro e w2 ⟨io,ic,po,pc,eo,ec,ro', rc', rfl,hL,k2⟩))
 obtain ⟨w3,hw3⟩:∃ w3,w3=w2.alloc (.cells #[.slice io 7 ic,.slice po 1 pc,.slice eo 4 ec,.slice ro' 2 rc'] 51):=⟨_,rfl⟩;have k3:Za w2 w3:=by rw [hw3];exact (Zc.refl _ _).alloc _
 have HC:Hid (∀ ww,Za w3 ww->ww.cell? ⟨w2.heap.size,0,none⟩=some (.slice io 7 ic)∧ww.cell? ⟨w2.heap.size,1,none⟩=some (.slice po 1 pc)∧ww.cell? ⟨w2.heap.size,2,none⟩=some (.slice eo 4 ec)∧ww.cell? ⟨w2.heap.size,3,none⟩=some (.slice ro' 2 rc')):=λ ww hk=>by
  have h0:w3.heap[w2.heap.size]? = some (.cells #[.slice io 7 ic,.slice po 1 pc,.slice eo 4 ec,.slice ro' 2 rc'] 51 (0,0)):=by rw [hw3];exact heap_alloc_new w2 _
  have h1:=hk.at0 h0;exact ⟨Zb h1 0,Zb h1 1,Zb h1 2,Zb h1 3⟩
 have HL:Hid (∀ ww,Za w3 ww->Zaf ww io ins9∧Zaq ww po [[0]]∧Zh ww eo [-1, -1,0,6]∧Zt4 ww ro' (Zj L9x [Zfb,Zf6])):=λ ww hk=>by
  obtain ⟨h1,h2,h3,h4⟩:=hL.out;exact ⟨h1.same (k3.trans' hk),h2.same (k3.trans' hk),h3.same (k3.trans' hk),h4.same (k3.trans' hk)⟩
 have K3:Za w1 w3:=k2.trans' k3;rw [<- hw3];clear hw3 hL CC k2 k3;have k4:Za w3 (w3.alloc (.cells #[.int .i64 1,.int .i64 0,.int .i64 0,.int .i64 2,.int .i64 0,.int .i64 4,.int .i64 2,.int .i64 1,.int .i64 5,.int .i64 3,.int .i64 0,.int .i64 0,.int .i64 4,.int .i64 0,.int .i64 0,.int .i64 4,.int .i64 1,.int .i64 0,.int .i64 3,.int .i64 0,.int .i64 0] 117)):=(Zc.refl _ _).alloc _;obtain ⟨c0,c1,c2,c3⟩:=HC.out _ k4;have B1:=Zdh (HL.out _ k4).1 (Zwe w3) (by decide) ic 7
 go_upto_region 8 with (first | (go_at_call 46;refine B1.mono ?_;rintro e w5 ⟨rfl,k5⟩))
 have K5:Za w3 w5:=k4.trans' k5;clear c0 c1 c2 c3 B1 k4 k5
 go_upto_region 10 with fail
 have C0:=HC.out w5 K5
 have CO:Hid (∀ ww k,Za w3 ww->ww.heap[k]? = some (.cells #[.int .i64 2,.int .i64 1,.int .i64 0,.int .i64 0] 3 (0,0))->Calls Tryz.prog 48 #[.pointer (some ⟨bs,0,none⟩),.slice (some ⟨k,0,none⟩) 4 4] ww λ e w' => ∃ ho hn hc go gn gc,e=.returned (.agg #[.slice ho hn hc,.slice go gn gc])∧Hid (∃ base,Zhj base w' L9x (Zoa L9x [2,1,0,0]) [2,1,0,0] (.agg #[.slice ho hn hc,.slice go gn gc]))∧Za ww w'):=λ ww k hk hr=>by
  refine (Ztd (HSG.out ww (K3.trans' hk)) (Zwn hr)).mono ?_;rintro e w' ⟨ho,hn,hc,go,gn,gc,rfl,h1,h2⟩;exact ⟨ho,hn,hc,go,gn,gc,rfl,⟨_,h1⟩,h2⟩
 have CR:Hid (∀ ww ho hn hc go gn gc,Za w3 ww->(∃ base,Zhj base ww L9x (Zoa L9x [2,1,0,0]) [2,1,0,0] (.agg #[.slice ho hn hc,.slice go gn gc]))->Calls Tryz.prog 47 #[.agg #[.slice io 7 ic,.slice po 1 pc,.slice eo 4 ec,.slice ro' 2 rc'],.int .i64 2,.iface 121 (.agg #[.slice ho hn hc,.slice go gn gc]),.int .i64 0] ww λ e w' => ∃ qo qc,e=.returned (.tuple #[.agg #[.int .i64 1,.int .i64 1,.slice qo 0 qc,.int .i64 0],.int .i64 0])∧Za ww w'):=λ ww ho hn hc go gn gc hk hv=>by
  obtain ⟨base,hv⟩:=hv;obtain ⟨h1,h2,h3,_⟩:=HL.out ww hk;refine (Zvo hv h1 (by decide) h2 h3 ic pc ec ro' 2 rc' 2 0).mono ?_;intro e w' h;rw [Zvz] at h;obtain ⟨qo,qc,rfl,_,h5⟩:=h;exact ⟨qo,qc,rfl,h5⟩
 go_cut [10,11] from 51 to 59 (λ s10 s11 wc=>∃ g qo qc,s10=.pointer (some ⟨g,0,none⟩)∧s11=.int .i64 0∧wc.heap[g]? = some (.cells #[.int .i64 1,.int .i64 1,.slice qo 0 qc,.int .i64 0] 85 (0,0))∧Za w3 wc)
 case first=>
  go_region_held3 (λ w' => w'.cell? ⟨w2.heap.size,0,none⟩=some (.slice io 7 ic)∧w'.cell? ⟨w2.heap.size,1,none⟩=some (.slice po 1 pc)∧w'.cell? ⟨w2.heap.size,2,none⟩=some (.slice eo 4 ec)∧w'.cell? ⟨w2.heap.size,3,none⟩=some (.slice ro' 2 rc')) (first | exact C0 | exact cc1 | exact cc2 | exact HC.out _ (by repeat (first | assumption | exact Zc.refl _ _ | refine Zc.alloc ?_ _ | refine Zc.drew ?_ | refine Za.own ?_ (by omega) _))) (first
   | (go_at_call 48;refine (CO.out _ _ (by repeat (first | assumption | exact Zc.refl _ _ | refine Zc.alloc ?_ _ | refine Zc.drew ?_ | refine Za.own ?_ (by omega) _)) (by first | exact heap_alloc_new _ _ | exact heap_alloc2_old _ _ _ | exact Zp _ _ _)).mono ?_;rintro e w6 ⟨ho,hn,hc,go,gn,gc,rfl,hV,k6⟩;have K6:Za w3 w6:=Za.trans' (by repeat (first | assumption | exact Zc.refl _ _ | refine Zc.alloc ?_ _ | refine Zc.drew ?_ | refine Za.own ?_ (by omega) _)) k6;have cc1:=HC.out _ K6)
   | (go_at_call 47;refine (CR.out _ _ _ _ _ _ _ (by repeat (first | assumption | exact Zc.refl _ _ | refine Zc.alloc ?_ _ | refine Zc.drew ?_ | refine Za.own ?_ (by omega) _)) (by obtain ⟨bb,hh⟩:=hV.out;exact ⟨bb,hh.same (by repeat (first | assumption | exact Zc.refl _ _ | refine Zc.alloc ?_ _ | refine Zc.drew ?_ | refine Za.own ?_ (by omega) _))⟩)).mono ?_;rintro e w7 ⟨qo,qc,rfl,k7⟩;have K7:Za w3 w7:=Za.trans' (by repeat (first | assumption | exact Zc.refl _ _ | refine Zc.alloc ?_ _ | refine Zc.drew ?_ | refine Za.own ?_ (by omega) _)) k7;have cc2:=HC.out _ K7;have z5:=K5.size;have z6:=K6.size;first | (have zb:w7.heap[w6.heap.size]? = some (.cells #[.int .i64 0,.int .i64 0,.slice none 0 0,.int .i64 0] 85 (0,0)):=k7.at0 (heap_alloc_new w6 _);obtain ⟨zc0,zc1,zc2,zc3,zf0,zf1,zf2,zf3⟩:=zf9 zb) | (have zb:w7.heap[w5.heap.size]? = some (.cells #[.int .i64 0,.int .i64 0,.slice none 0 0,.int .i64 0] 85 (0,0)):=k7.at0 (k6.at0 (heap_alloc2_old w5.drew _ _));obtain ⟨zc0,zc1,zc2,zc3,zf0,zf1,zf2,zf3⟩:=zf9 zb) | (have zb:w7.heap[w5.heap.size+1]? = some (.cells #[.int .i64 0,.int .i64 0,.slice none 0 0,.int .i64 0] 85 (0,0)):=k7.at0 (k6.at0 (Zp w5.drew _ _));obtain ⟨zc0,zc1,zc2,zc3,zf0,zf1,zf2,zf3⟩:=zf9 zb) | skip))
  all_goals
   go_wp2_with fail
   go_meet
   case rel=>
    first
     | exact ⟨_,qo,qc,rfl,rfl,heap_alloc_new w7 _,by repeat (first | assumption | exact Zc.refl _ _ | refine Zc.alloc ?_ _ | refine Zc.drew ?_ | refine Za.own ?_ (by omega) _)⟩
     | exact ⟨_,qo,qc,rfl,rfl,Zs (Zs (Zs (Zs zb 0 _) 1 _) 2 _) 3 _,Za.own (Za.own (Za.own (Za.own K7 (by omega) _) (by omega) _) (by omega) _) (by omega) _⟩
 case rest=>
  obtain ⟨g,qo,qc,rfl,rfl,hg,kc⟩:=hcut;obtain ⟨c0,c1,c2,c3⟩:=HC.out wc kc;have BW:=Zab (HL.out wc kc).2.2.2 Zww io po eo 7 ic 1 pc 4 ec rc' 1;rw [Zv2,aw9_wt] at BW;clear CO CR C0
  go_upto_region 12 with (first | (go_at_call 18;refine BW.mono ?_;rintro e w8 ⟨rfl,k8⟩))
  have hg8:=k8.at0 hg;have g0:=Zb hg8 0;have g1:=Zb hg8 1;have g2:=Zb hg8 2;have g3:=Zb hg8 3;have BS:=Zqg (w:=w8) (k:=1) (r:=1) (nd:=0) (p:=[]) (po:=qo) (po' := none) (pc:=qc) (pc' := 0) (.inl rfl) (.inl rfl) (by decide);have KF:Za w w8:=((K1.trans' K3).trans' kc).trans' k8
  go_wp2_with (first | (go_at_call 30;refine BS.mono ?_;rintro e w9 ⟨rfl,k9⟩))
  go_ret;exact ⟨rfl,KF.trans' k9⟩
end
section
open Go.RowKit
def OwC (B:Nat->Prop) (w:World) (po:Option Addr) (p:List Int) (pc:Nat) (kv:Value) (n:Nat):Prop:=
 Xx w po p pc∧(∀ a,po=some a->B a.block)∧(∃ us,w.ownsRow 0 89 5 kv n us)∧∀ g,kv.ownBlock=some g->B g
def CsO (B:Nat->Prop) (w:World):(n:Nat)->Value->Tr n->Prop
 | 0,_,_=>False
 | n+1,v,(k,r,p,l)=>∃ po pc ko kc,v=.agg #[.int .i64 k,.int .i64 r,.slice po p.length pc,.slice ko l.length kc]∧OwC B w po p pc (.slice ko l.length kc) l.length∧(ko=none->kc=0)∧l.length<=kc ∧
   (l=[]∨∃ (g:Nat) (β:Nat->Nat),ko=some ⟨g,0,none⟩∧B g∧g<w.heap.size∧(∀ i,β i<=β (i+1))∧∀ i (h:i<l.length),∃ c0 c1 c2 c3,w.cell? ⟨g,i * 5,none⟩=some (.int .i64 l[i].1)∧w.cell? ⟨g,i * 5+1,none⟩=some c0∧w.cell? ⟨g,i * 5+2,none⟩=some c1∧w.cell? ⟨g,i * 5+3,none⟩=some c2∧w.cell? ⟨g,i * 5+4,none⟩=some c3∧CsO (λ b=>(B b∧b≠g∧∀ a,po=some a->a.block≠b)∧β i<=b∧b<β (i+1)) w n (.agg #[c0,c1,c2,c3]) l[i].2)
theorem OwC.mono {B B' : Nat->Prop} {w:World} {po:Option Addr} {p:List Int} {pc:Nat} {kv:Value} {n:Nat} (h:OwC B w po p pc kv n) (hB:∀ b,b<w.heap.size->B b->B' b):OwC B' w po p pc kv n:=by
 obtain ⟨h1,h2,⟨us,h3⟩,h4⟩:=h;refine ⟨h1,λ a e=>?_,⟨us,h3⟩,λ g e=>hB g (h3.lt g e).2 (h4 g e)⟩;obtain ⟨cur,hc⟩:=h1.2 a e;exact hB _ (Zi hc) (h2 a e)
theorem CsO.mono {w:World}:∀ {n:Nat} {B B' : Nat->Prop} (hB:∀ b,b<w.heap.size->B b->B' b) {v:Value} {t:Tr n},CsO B w n v t->CsO B' w n v t
 | 0,_,_,_,_,_,h=>h
 | n+1,B,B', hB,v,(k,r,p,l),h=>by
  obtain ⟨po,pc,ko,kc,h1,h2,h4,h5,h6⟩:=h;refine ⟨po,pc,ko,kc,h1,h2.mono hB,h4,h5,h6.imp id ?_⟩;rintro ⟨b,β,e,hb,hl,hm,hc⟩;refine ⟨b,β,e,hB b hl hb,hl,hm,λ i hi=>?_⟩;obtain ⟨c0,c1,c2,c3,q0,q1,q2,q3,q4,q5⟩:=hc i hi;exact ⟨c0,c1,c2,c3,q0,q1,q2,q3,q4,CsO.mono (λ b' hb' q=>⟨⟨hB b' hb' q.1.1,q.1.2⟩,q.2⟩) q5⟩
def Zv5 (B:Nat->Prop) (w:World) (n:Nat) (us:List Value) (l:List (Int × Tr n)):Prop:=
 us.length=l.length * 5∧∃ β:Nat->Nat,(∀ i,β i<=β (i+1))∧∀ i (h:i<l.length),∃ c0 c1 c2 c3,us[i * 5]? = some (.int .i64 l[i].1)∧us[i * 5+1]? = some c0∧us[i * 5+2]? = some c1∧us[i * 5+3]? = some c2∧us[i * 5+4]? = some c3∧CsO (λ b=>B b∧β i<=b∧b<β (i+1)) w n (.agg #[c0,c1,c2,c3]) l[i].2
theorem Zv5.mono {B B' : Nat->Prop} {w:World} {n:Nat} {us:List Value} {l:List (Int × Tr n)} (h:Zv5 B w n us l) (hB:∀ b,b<w.heap.size->B b->B' b):Zv5 B' w n us l:=by
 obtain ⟨h1,β,h2,h3⟩:=h;refine ⟨h1,β,h2,λ i hi=>?_⟩;obtain ⟨c0,c1,c2,c3,q0,q1,q2,q3,q4,q5⟩:=h3 i hi;exact ⟨c0,c1,c2,c3,q0,q1,q2,q3,q4,CsO.mono (λ b hb q=>⟨hB b hb q.1,q.2⟩) q5⟩
end
section
open Go.RowKit
attribute [local go_sem ↓] Go.wp_at_zero Go.wp_at_succ
def IW8 (w:World) (xo:Option Addr) (n xc:Nat):Prop:=(xo=none∧n=0∧xc=0)∨∃ b cur,xo=some ⟨b,0,none⟩∧w.heap[b]? = some (.cells cur 3 (0,0))∧cur.size=xc∧n<=xc∧xc<=maxLen∧n * 8<=140737488351232
def KW8 (w:World) (xo:Option Addr) (n xc:Nat):Prop:=(xo=none∧n=0∧xc=0)∨∃ b cur,xo=some ⟨b,0,none⟩∧w.heap[b]? = some (.cells cur 89 (0,0))∧cur.size=xc * 5∧n<=xc∧xc<=maxLen∧n<=1000000000
structure SpJ (B:Nat->Prop) (w wr:World) (n:Nat) (po:Option Addr) (pl pc:Nat) (ko:Option Addr) (kc:Nat) (l:List (Int × Tr n)) (j:Nat):Prop where
 k:Zc B w wr
 i:IW8 wr po pl pc
 kw:KW8 wr ko l.length kc
 kid:l=[]∨∃ (g:Nat) (β:Nat->Nat),ko=some ⟨g,0,none⟩∧B g∧g<wr.heap.size∧(∀ i,β i<=β (i+1))∧∀ i (h:i<l.length),j<=i->∃ c0 c1 c2 c3,wr.cell? ⟨g,i * 5+1,none⟩=some c0∧wr.cell? ⟨g,i * 5+2,none⟩=some c1∧wr.cell? ⟨g,i * 5+3,none⟩=some c2∧wr.cell? ⟨g,i * 5+4,none⟩=some c3∧CsO (λ b=>(B b∧b≠g∧∀ a,po=some a->a.block≠b)∧β i<=b∧b<β (i+1)) wr n (.agg #[c0,c1,c2,c3]) l[i].2
theorem Zhy (L:List Sym) (R:List Ru):∀ m:Nat,Ziy L R m∨∃ (K:Nat) (z:Int),K<m∧Y7 L (K:Int)=true∧X5 L R K=.error z∧Ziy L R K
 | 0=>.inl (λ k h=>absurd h (by omega))
 | m+1=>by
  rcases Zhy L R m with h | ⟨K,z,h1,h2⟩
  ·by_cases hd:Y7 L (m:Int)=true
   ·cases ht:X5 L R m with
    | ok t=>exact .inl (h.step_yes ht)
    | error z=>exact .inr ⟨m,z,by omega,hd,ht,h⟩
   ·exact .inl (h.step_no (by simpa using hd))
  ·exact .inr ⟨K,z,by omega,h2⟩
theorem Zsj {w2:World} {bs b m:Nat} {L:List Sym} {R:List Ru} {lv:Value} {vs:List Value} (hst:Kd w2 b bs L R lv vs) (hgood:GoodR L R) (hall:Ziy L R L.length) {ro mo:Option Addr} {rc mc:Nat} (hrl:Rl w2.heap.size w2 (.slice ro L.length rc) L) (hMR:V7 w2 mo R) :
  (∀ ww,Za w2 ww->Calls Tryz.prog 14 #[.pointer (some ⟨b,0,none⟩)] ww λ e w' => ∃ io ic po pc eo ec ro rc,e=.returned (.tuple #[.agg #[.slice io (Zk L R L.length).1.1.length ic,.slice po (Zk L R L.length).1.2.length pc,.slice eo (Zk L R L.length).2.length ec,.slice ro (Zj L R).length rc],.nilIface])∧Hid (∃ cs,CpA L R ww.heap.size w' io po eo ro ic pc ec rc cs∧RtC ww.heap.size w' cs (Zj L R)∧CdW w' ww.heap.size w'.heap.size io po eo ro (Zk L R L.length).1.1.length (Zk L R L.length).1.2.length (Zk L R L.length).2.length (Zj L R).length)∧Za ww w') ∧
  (∀ ww,Za w2 ww->Calls Tryz.prog 15 #[.slice ro L.length rc,.slice mo R.length mc] ww λ e w' => ∃ io ic po pc eo ec ro rc,e=.returned (.tuple #[.agg #[.slice io (Zk L R L.length).1.1.length ic,.slice po (Zk L R L.length).1.2.length pc,.slice eo (Zk L R L.length).2.length ec,.slice ro (Zj L R).length rc],.slice none 0 0])∧Hid (∃ cs,CpA L R ww.heap.size w' io po eo ro ic pc ec rc cs∧RvC ww.heap.size w' cs (Zj L R))∧Za ww w'):=by
 refine ⟨λ ww hk=>?_,λ ww hk=>?_⟩
 ·refine (Zff (hst.same hk) (λ k hk=>hall k hk)).mono ?_
  intro e w' h;have h9:=λ q hq=>Nat.le_trans (Ze6 hgood q hq).1 (by omega:200<=20000000000000);obtain ⟨k1,io,ic,po,pc,eo,ec,ro,rc,e1,_,_,d1⟩:=h.write h9;obtain ⟨_,io', ic', po', pc', eo', ec', ro', rc', cs,e2,a1,a2⟩:=h.cpA;rw [e1] at e2;simp only [Ending.returned.injEq,Value.tuple.injEq,Value.agg.injEq,Array.mk.injEq,List.cons.injEq,Value.slice.injEq,true_and,and_true] at e2;obtain ⟨⟨rfl,rfl⟩,⟨rfl,rfl⟩,⟨rfl,rfl⟩,rfl,rfl⟩:=e2;exact ⟨io,ic,po,pc,eo,ec,ro,rc,e1,⟨cs,a1,a2,d1⟩,k1⟩
 ·refine (Zcl (Ze4 (hrl.same hk) hk.size) (hMR.same hk) hst.le hst.ok (Zis hgood) mc).mono ?_
  intro e w' h;obtain ⟨k1,io,ic,po,pc,eo,ec,ro,rc,cs,e1,a1,a2⟩:=h.cpA hall;exact ⟨io,ic,po,pc,eo,ec,ro,rc,e1,⟨cs,a1,a2⟩,k1⟩
end
section
open Go.RowKit
abbrev Zf0:Value:=.agg #[.slice none 0 0,.slice none 0 0,.slice none 0 0,.slice none 0 0]
theorem Zpy (w:World):CdA w none none none none (([],[]):St9) [] []:=by
 refine ⟨?_,?_,?_,?_⟩
 ·exact .inl rfl
 ·exact .inl rfl
 ·exact .inl rfl
 ·exact .inl rfl
theorem Zhr (w:World):Calls Tryz.prog 16 #[Zf0,Zf0] w λ e w' => e=.returned (.bool true)∧Za w w' :=
 Zbz (Zpy w) (Zpy w) (by simp) (by simp) (by simp) (by simp) (by simp) 0 0 0 0 0 0 0 0
theorem Zje (w:World):Calls Tryz.prog 17 #[Zf0] w λ e w' => (∃ u,e=.returned u)∧Za w w' := by
 refine (Zdv (w:=w) (lo:=0) (hi:=0) (by omega) ⟨.inl rfl,.inl rfl,.inl rfl,.inl rfl⟩ (by omega) (by omega) (by omega) (by omega) 0 0 0 0).mono ?_;rintro e w' ⟨h1,h2⟩;exact ⟨h1,h2.mono (λ b _ h=>by omega)⟩
theorem Zud (z:Int):Jh z 0=false:=by simp [Jh]
theorem Zeo (w:World) (z:Int):Calls Tryz.prog 18 #[Zf0,.int .i64 z] w λ e w' => e=.returned (.tuple #[.int .i64 0,.int .i64 91])∧Za w w' := by
 have:=Zab (w:=w) (ro:=none) (Q:=[]) (.inl rfl) (by simp) none none none 0 0 0 0 0 0 0 z;simp only [List.length_nil,Zud] at this;exact this
theorem Zpi {w2:World} {bs b m:Nat} {L:List Sym} {R:List Ru} {lv:Value} {vs:List Value} (hst:Kd w2 b bs L R lv vs) (hgood:GoodR L R) {K:Nat} {z:Int} (hK:K<L.length) (hd:Y7 L (K:Int)=true) (ht:X5 L R K=.error z) (hall:Ziy L R K) {ro mo:Option Addr} {rc mc:Nat} (hrl:Rl w2.heap.size w2 (.slice ro L.length rc) L) (hMR:V7 w2 mo R) :
  (∀ ww,Za w2 ww->Calls Tryz.prog 14 #[.pointer (some ⟨b,0,none⟩)] ww λ e w' => ∃ q,e=.returned (.tuple #[Zf0,.iface 98 (.pointer (some ⟨q,0,none⟩))])∧Hid (Yg w' [(81,(K:Int)),(82,z)] (.iface 98 (.pointer (some ⟨q,0,none⟩))))∧Za ww w') ∧
  (∀ ww,Za w2 ww->Calls Tryz.prog 15 #[.slice ro L.length rc,.slice mo R.length mc] ww λ e w' => ∃ wo wc,e=.returned (.tuple #[Zf0,.slice wo 2 wc])∧Hid (Y5 w' (.slice wo 2 wc) [(81,(K:Int)),(82,z)]∧Zrw ww (.slice wo 2 wc))∧Za ww w'):=by
 refine ⟨λ ww hk=>?_,λ ww hk=>?_⟩
 ·exact Zj7 (hst.same hk) hK hd ht (λ k h1 h2=>hall k h1 h2)
 ·refine (Zcl (Ze4 (hrl.same hk) hk.size) (hMR.same hk) hst.le hst.ok (Zis hgood) mc).mono ?_
  intro e w' h;obtain ⟨k1,v,e1,a1,a2⟩:=h.err hK hd ht hall;obtain ⟨wo,wc,rfl,a3⟩:=id a1;exact ⟨wo,wc,e1,⟨a1,a2⟩,k1⟩
end
section
open Go.RowKit
attribute [local go_sem ↓] Go.wp_at_zero Go.wp_at_succ
abbrev cdC (a b c d:Value):Obj:=.cells #[a,b,c,d] 51
theorem WrI.same {W W' : World} {lo hi:Nat} {ao:Option Addr} {n:Nat} (h:WrI W lo hi ao n) (hk:Za W W'):WrI W' lo hi ao n:=by
 refine h.imp id ?_;rintro ⟨g,cur,e,q1,q2,q3,q4⟩;exact ⟨g,cur,e,q1,q2,hk.at0 q3,q4⟩
theorem CdW.same {W W' : World} {lo hi:Nat} {io po eo ro:Option Addr} {I P E R:Nat} (h:CdW W lo hi io po eo ro I P E R) (hk:Za W W'):CdW W' lo hi io po eo ro I P E R:=by
 refine ⟨h.ins.imp id ?_,h.pth.imp id ?_,h.ent.same hk,h.rgt.imp id ?_⟩
 ·rintro ⟨g,cur,e,q1,q2,q3,q4⟩
  exact ⟨g,cur,e,q1,q2,hk.at0 q3,q4⟩
 ·rintro ⟨g,cur,e,q1,q2⟩
  refine ⟨g,cur,e,hk.at0 q1,λ i hi=>?_⟩;obtain ⟨qo,ql,qc,a,b,c⟩:=q2 i hi;exact ⟨qo,ql,qc,a,b.same hk,c⟩
 ·rintro ⟨g,cur,e,q1,q2⟩
  refine ⟨g,cur,e,hk.at0 q1,λ i hi=>?_⟩;obtain ⟨b,hl,hc,cu,a,a1,a2,a3,a4,a5,a6⟩:=q2 i hi;refine ⟨b,hl,hc,cu,a,a1,a2,hk.at0 a3,a4,a5,λ k hk' => ?_⟩;obtain ⟨qo,ql,qc,d1,d2,d3⟩:=a6 k hk';exact ⟨qo,ql,qc,d1,d2.same hk,d3⟩
theorem Zm7 {w:World} {ao:Option Addr} {len cap:Nat} {xs:List Sym} (hx:Vi w ao len xs) (hm:len<=maxLen) {po:Option Addr} {pc:Nat} {l:List Ru} (hp:ArgR w po l pc) (rule:Int) :
  Calls Tryz.prog 4 #[.slice ao len cap,.slice po l.length pc,.int .i64 rule] w λ e w' => e=.returned (.bool true)∧Below w.heap.size w w' := by
 have hpn:=Zkc;have hls:l.length<=140737488355328:=by have:=hp.size;omega
 have CA:=Znz w;have CS:Hid (∀ ww,Za w ww->Calls Tryz.prog 7 #[.slice ao len cap,.slice po l.length pc] ww (Zpb (Kt xs) l ww)):=λ ww hk=>Zfi (Vi.same8 hx hk) hm (hp.at'.same hk) hls hp.cap';generalize Kt xs=L at *;clear hx hp hm hls
 go_enter Tryz.func4,Tryz.ntmps4
 go_upto_region 2 with (first | (go_at_call 13;refine CA.mono ?_;rintro e w1 ⟨rfl,k1⟩))
 have C1:=CS.out w1 k1
 go_upto_region 3 with (first | (go_at_call 7;refine C1.mono ?_;rintro e w2 ⟨bs,b,m,ro,rc,lv,vs,mv,ms,R,rfl,hT,hR⟩))
 have K2:Za w w2:=k1.trans' hT.same;have hst:=hT.st;have hmo:=hT.mo;have hgood:=hT.good;have hle:=hst.le;obtain ⟨mo,mc,rfl,hMR⟩:=hmo.read;have hrl:=hmo.rl;have MC:Hid (∀ ww,Za w2 ww->ww.cell? ⟨m,0,none⟩=some (.slice ro L.length rc)∧ww.cell? ⟨m,1,none⟩=some (.slice mo R.length mc)):=λ ww hk=>⟨Zb (hk.at0 hmo.blk) 0,Zb (hk.at0 hmo.blk) 1⟩
 rcases Zhy L R L.length with hall | ⟨K,z,hK,hdK,hzK,hall⟩
 ·obtain ⟨CPP,DPP⟩:=Zsj (m:=0) (rc:=rc) (mc:=mc) hst hgood hall hrl hMR.rs
  have HC:Hid (∀ ww,Za w2 ww->Calls Tryz.prog 14 #[.pointer (some ⟨b,0,none⟩)] ww _):=CPP;have HD:Hid (∀ ww,Za w2 ww->Calls Tryz.prog 15 #[.slice ro L.length rc,.slice mo R.length mc] ww _):=DPP
  have LEN:Hid ((Zk L R L.length).1.1.length<=64000000∧(Zk L R L.length).1.2.length<=64000000∧(Zk L R L.length).2.length<=64∧(Zj L R).length<=100∧∀ q∈Zj L R,q.length<=140737488355328∧∀ x∈q,x.2.length<=100000):=by
   obtain ⟨⟨sv,mr,hs,_⟩,hArs⟩:=hst.sig;have hL:=hs.len;obtain ⟨s1,s2⟩:=Ju hArs hL hst.le hst.ok L.length (Nat.le_refl _);refine ⟨by omega,by omega,by omega,by rw [Zj,List.length_map];exact hst.le,λ q hq=>?_⟩;obtain ⟨p1,p2⟩:=Ze6 hgood q hq;exact ⟨by omega,λ x hx=>by have:=p2 x hx;omega⟩
  have CA5:=HC.out w2 (Zc.refl _ _);clear hT hR C1 CS CA hst k1 hmo hMR hgood hall hrl CPP DPP
  go_upto_region 6 with (first | (go_at_call 14;refine CA5.mono ?_;rintro e w3 ⟨io1,ic1,po1,pc1,eo1,ec1,ro1,rc1,rfl,hA,k3⟩))
  obtain ⟨w4,hw4⟩:∃ w4,w4=w3.alloc (cdC (.slice io1 (Zk L R L.length).1.1.length ic1) (.slice po1 (Zk L R L.length).1.2.length pc1) (.slice eo1 (Zk L R L.length).2.length ec1) (.slice ro1 (Zj L R).length rc1)):=⟨_,rfl⟩;have k34:Za w3 w4:=by rw [hw4];exact (Zc.refl _ _).alloc _
  have K4:Za w2 w4:=k3.trans' k34;have A4:Hid (w4.heap[w3.heap.size]? = some (cdC (.slice io1 (Zk L R L.length).1.1.length ic1) (.slice po1 (Zk L R L.length).1.2.length pc1) (.slice eo1 (Zk L R L.length).2.length ec1) (.slice ro1 (Zj L R).length rc1))):=by rw [hw4];exact heap_alloc_new _ _
  have HZ4:Hid (w4.heap.size=w3.heap.size+1):=by rw [hw4];simp [Hid]
  rw [<- hw4];clear hw4 CA5;have CB6:=HC.out w4 K4
  go_upto_region 7 with (first | (go_at_call 14;refine CB6.mono ?_;rintro e w5 ⟨io2,ic2,po2,pc2,eo2,ec2,ro2,rc2,rfl,hB,k5⟩))
  obtain ⟨w6,hw6⟩:∃ w6,w6=w5.alloc (cdC (.slice io2 (Zk L R L.length).1.1.length ic2) (.slice po2 (Zk L R L.length).1.2.length pc2) (.slice eo2 (Zk L R L.length).2.length ec2) (.slice ro2 (Zj L R).length rc2)):=⟨_,rfl⟩;have k56:Za w5 w6:=by rw [hw6];exact (Zc.refl _ _).alloc _
  have K46:Za w4 w6:=k5.trans' k56;have K6:Za w2 w6:=K4.trans' K46;have A6:Hid (w6.heap[w5.heap.size]? = some (cdC (.slice io2 (Zk L R L.length).1.1.length ic2) (.slice po2 (Zk L R L.length).1.2.length pc2) (.slice eo2 (Zk L R L.length).2.length ec2) (.slice ro2 (Zj L R).length rc2))):=by rw [hw6];exact heap_alloc_new _ _
  rw [<- hw6];clear hw6 CB6;have M6:=MC.out w6 K6;have HM6:Hid (∀ ww,Za w6 ww->ww.cell? ⟨m,0,none⟩=some (.slice ro L.length rc)∧ww.cell? ⟨m,1,none⟩=some (.slice mo R.length mc)):=λ ww hk=>MC.out ww (K6.trans' hk);have DX:Hid (∀ ww,Za w6 ww->Calls Tryz.prog 15 #[.slice ro L.length rc,.slice mo R.length mc] ww _):=λ ww hk=>HD.out ww (K6.trans' hk)
  have FIN1:Hid (∀ (ww w7:World) io ic po pc eo ec ro rc cs,w6.heap.size<=ww.heap.size->Za w6 w7->CpA L R ww.heap.size w7 io po eo ro ic pc ec rc cs->RvC ww.heap.size w7 cs (Zj L R)->Hid (w6.heap.size<=w7.heap.size∧(w7.alloc (cdC (.slice io (Zk L R L.length).1.1.length ic) (.slice po (Zk L R L.length).1.2.length pc) (.slice eo (Zk L R L.length).2.length ec) (.slice ro (Zj L R).length rc))).heap[w7.heap.size]? = some (cdC (.slice io (Zk L R L.length).1.1.length ic) (.slice po (Zk L R L.length).1.2.length pc) (.slice eo (Zk L R L.length).2.length ec) (.slice ro (Zj L R).length rc))∧∃ base cs,w6.heap.size<=base∧CpA L R base (w7.alloc (cdC (.slice io (Zk L R L.length).1.1.length ic) (.slice po (Zk L R L.length).1.2.length pc) (.slice eo (Zk L R L.length).2.length ec) (.slice ro (Zj L R).length rc))) io po eo ro ic pc ec rc cs∧RvC base (w7.alloc (cdC (.slice io (Zk L R L.length).1.1.length ic) (.slice po (Zk L R L.length).1.2.length pc) (.slice eo (Zk L R L.length).2.length ec) (.slice ro (Zj L R).length rc))) cs (Zj L R))∧Za w6 (w7.alloc (cdC (.slice io (Zk L R L.length).1.1.length ic) (.slice po (Zk L R L.length).1.2.length pc) (.slice eo (Zk L R L.length).2.length ec) (.slice ro (Zj L R).length rc)))):=by
   intro ww w7 io ic po pc eo ec ro rc cs h1 h2 h3 h4;exact ⟨⟨h2.size,heap_alloc_new w7 _,ww.heap.size,cs,h1,h3.keptLow (((Zc.refl (λ _=>False) w7)).alloc _) (λ _ f=>f.elim),h4.keptLow (((Zc.refl (λ _=>False) w7)).alloc _) (λ _ f=>f.elim)⟩,h2.alloc _⟩
  have FIN2:Hid (∀ (ww w7:World) io ic po pc eo ec ro rc cs,w6.heap.size<ww.heap.size->Za w6 w7->w7.heap[w6.heap.size]? = some (.cells #[.slice none 0 0,.slice none 0 0,.slice none 0 0,.slice none 0 0] 51 (0,0))->CpA L R ww.heap.size w7 io po eo ro ic pc ec rc cs->RvC ww.heap.size w7 cs (Zj L R)->∃ Z,Hid (Z=(((w7.setCell ⟨w6.heap.size,0,none⟩ (.slice io (Zk L R L.length).1.1.length ic)).setCell ⟨w6.heap.size,1,none⟩ (.slice po (Zk L R L.length).1.2.length pc)).setCell ⟨w6.heap.size,2,none⟩ (.slice eo (Zk L R L.length).2.length ec)).setCell ⟨w6.heap.size,3,none⟩ (.slice ro (Zj L R).length rc))∧Hid (w6.heap.size<=w6.heap.size∧Z.heap[w6.heap.size]? = some (cdC (.slice io (Zk L R L.length).1.1.length ic) (.slice po (Zk L R L.length).1.2.length pc) (.slice eo (Zk L R L.length).2.length ec) (.slice ro (Zj L R).length rc))∧∃ base cs,w6.heap.size<=base∧CpA L R base Z io po eo ro ic pc ec rc cs∧RvC base Z cs (Zj L R))∧Za w6 Z):=by
   intro ww w7 io ic po pc eo ec ro rc cs h1 h2 hb h3 h4;obtain ⟨p1,p2⟩:=Zad hb (.slice io (Zk L R L.length).1.1.length ic) (.slice po (Zk L R L.length).1.2.length pc) (.slice eo (Zk L R L.length).2.length ec) (.slice ro (Zj L R).length rc);exact ⟨_,rfl,⟨Nat.le_refl _,p1,ww.heap.size,cs,by omega,h3.keptLow p2 (λ q e=>by have e' : q=w6.heap.size:=e;omega),h4.keptLow p2 (λ q e=>by have e' : q=w6.heap.size:=e;omega)⟩,Zc.trans h2 p2 (λ i hi e=>by have e' : i=w6.heap.size:=e;omega)⟩
  go_cut [15,16] from 50 to 61 (λ s15 s16 wc=>∃ q io ic po pc eo ec xo xc,s15=.pointer (some ⟨q,0,none⟩)∧s16=.slice none 0 0∧Hid (w6.heap.size<=q∧wc.heap[q]? = some (cdC (.slice io (Zk L R L.length).1.1.length ic) (.slice po (Zk L R L.length).1.2.length pc) (.slice eo (Zk L R L.length).2.length ec) (.slice xo (Zj L R).length xc))∧∃ base cs,w6.heap.size<=base∧CpA L R base wc io po eo xo ic pc ec xc cs∧RvC base wc cs (Zj L R))∧Za w6 wc)
  case first=>
   have kd:Za w6 w6.drew:=(Zc.refl _ _).drew;have zf9:∀ {w11:World},w11.heap[w6.heap.size]? = some (.cells #[.slice none 0 0,.slice none 0 0,.slice none 0 0,.slice none 0 0] 51 (0,0))->w11.cell? ⟨w6.heap.size,0,none⟩=some (.slice none 0 0)∧w11.cell? ⟨w6.heap.size,1,none⟩=some (.slice none 0 0)∧w11.cell? ⟨w6.heap.size,2,none⟩=some (.slice none 0 0)∧w11.cell? ⟨w6.heap.size,3,none⟩=some (.slice none 0 0)∧w11.frozen? ⟨w6.heap.size,0,none⟩=false∧w11.frozen? ⟨w6.heap.size,1,none⟩=false∧w11.frozen? ⟨w6.heap.size,2,none⟩=false∧w11.frozen? ⟨w6.heap.size,3,none⟩=false:=λ h=>⟨Zb h 0,Zb h 1,Zb h 2,Zb h 3,Zd h 0,Zd h 1,Zd h 2,Zd h 3⟩;clear A4 A6 hA hB k3 k5 k34 k56 K46 K4 K6 HZ4 HC HD MC K2 hle
   go_region_held3 (λ ww=>ww.cell? ⟨m,0,none⟩=some (.slice ro L.length rc)∧ww.cell? ⟨m,1,none⟩=some (.slice mo R.length mc)) (first | exact M6 | exact cc2 | exact cc3 | exact HM6.out _ (by repeat (first | assumption | exact Zc.refl _ _ | refine Zc.alloc ?_ _ | refine Zc.drew ?_))) (first
    | (go_at_call 15;refine (DX.out _ (by repeat (first | assumption | exact Zc.refl _ _ | refine Zc.alloc ?_ _ | refine Zc.drew ?_))).mono ?_;rintro e w7 ⟨io,ic,po,pc,eo,ec,xo,xc,rfl,h7,k7⟩;have K7:Za w6 w7:=Za.trans' (by repeat (first | assumption | exact Zc.refl _ _ | refine Zc.alloc ?_ _ | refine Zc.drew ?_)) k7;have cc2:=HM6.out _ K7;obtain ⟨cs,h8,h9⟩:=h7.out;first | (have zb:w7.heap[w6.heap.size]? = some (.cells #[.slice none 0 0,.slice none 0 0,.slice none 0 0,.slice none 0 0] 51 (0,0)):=k7.at0 (heap_alloc_new w6.drew _);obtain ⟨zc0,zc1,zc2,zc3,zf0,zf1,zf2,zf3⟩:=zf9 zb;obtain ⟨Z,hZ,hZ2,hZ3⟩:=FIN2.out (w6.drew.alloc Va) w7 io ic po pc eo ec xo xc cs (by simp) K7 zb h8 h9;have HZ3:Hid (Za w6 Z):=hZ3;have cc3:=HM6.out _ hZ3;have HCC:Hid _:=cc3;rw [hZ.out] at cc3;clear hZ3) | skip))
   all_goals
    go_wp2_with fail
    go_meet
    case rel=>
     first
      | exact ⟨_,io,ic,po,pc,eo,ec,xo,xc,rfl,rfl,FIN1.out w6.drew w7 io ic po pc eo ec xo xc cs (Nat.le_refl _) K7 h8 h9⟩
      | exact ⟨_,io,ic,po,pc,eo,ec,xo,xc,rfl,rfl,by rw [<- hZ.out];exact ⟨hZ2,HZ3.out⟩⟩
  case rest=>
   obtain ⟨q,io,ic,po,pc,eo,ec,xo,xc,rfl,rfl,hV,kc⟩:=hcut;obtain ⟨wd,rfl⟩:∃ wd:World,wd=wc:=⟨_,rfl⟩;have K46c:Za w4 wd:=K46.trans' kc;have K3c:Za w3 wd:=k34.trans' K46c;have K5c:Za w5 wd:=k56.trans' kc;have z3:=k3.size;have z4:=HZ4.out;have z5:=k5.size;have z6:=k56.size;have zd:=kc.size;obtain ⟨l1,l2,l3,l4,l5⟩:=LEN.out
   have AA:Hid (∀ ww,Za wd ww->ww.cell? ⟨w3.heap.size,0,none⟩=some (.slice io1 (Zk L R L.length).1.1.length ic1)∧ww.cell? ⟨w3.heap.size,1,none⟩=some (.slice po1 (Zk L R L.length).1.2.length pc1)∧ww.cell? ⟨w3.heap.size,2,none⟩=some (.slice eo1 (Zk L R L.length).2.length ec1)∧ww.cell? ⟨w3.heap.size,3,none⟩=some (.slice ro1 (Zj L R).length rc1)):=λ ww hk=>by
    have h9:=(K46c.trans' hk).at0 A4.out;exact ⟨Zb h9 0,Zb h9 1,Zb h9 2,Zb h9 3⟩
   have QQ:Hid (∀ ww,Za wd ww->ww.cell? ⟨q,0,none⟩=some (.slice io (Zk L R L.length).1.1.length ic)∧ww.cell? ⟨q,1,none⟩=some (.slice po (Zk L R L.length).1.2.length pc)∧ww.cell? ⟨q,2,none⟩=some (.slice eo (Zk L R L.length).2.length ec)∧ww.cell? ⟨q,3,none⟩=some (.slice xo (Zj L R).length xc)):=λ ww hk=>by
    have h9:=hk.at0 hV.out.2.1;exact ⟨Zb h9 0,Zb h9 1,Zb h9 2,Zb h9 3⟩
   have RA:CdA wd io1 po1 eo1 ro1 (Zk L R L.length).1 (Zk L R L.length).2 (Zj L R):=by
    obtain ⟨cs,a1,a2,_⟩:=hA.out;have a3:=a1.keptLow K3c (λ _ f=>f.elim);exact a3.cdA ((a2.keptLow K3c (λ _ f=>f.elim)).rgP a3.row)
   have RQ:CdA wd io po eo xo (Zk L R L.length).1 (Zk L R L.length).2 (Zj L R):=by
    obtain ⟨_,_,base,cs,_,a1,a2⟩:=hV.out;exact a1.cdA (a2.rgP a1.row)
   have C8:=Zbz RA RQ (by omega) (by omega) (by omega) (by omega) l5 ic1 pc1 ec1 rc1 ic pc ec xc
   have C9:Hid (∀ ww,Za wd ww->Calls Tryz.prog 17 #[.agg #[.slice io1 (Zk L R L.length).1.1.length ic1,.slice po1 (Zk L R L.length).1.2.length pc1,.slice eo1 (Zk L R L.length).2.length ec1,.slice ro1 (Zj L R).length rc1]] ww λ e w' => (∃ u,e=.returned u)∧Zc (λ q=>w2.heap.size<=q∧q<w3.heap.size) ww w'):=λ ww hk=>by
    obtain ⟨cs,_,_,a3⟩:=hA.out;exact Zdv (by have:=hk.size;omega) (a3.same (K3c.trans' hk)) (by omega) (by omega) (by omega) (by omega) ic1 pc1 ec1 rc1
   have AFT:Hid (∀ w11 w12,Za wd w11->Zc (λ q=>w2.heap.size<=q∧q<w3.heap.size) w11 w12->∀ ww,Za w12 ww->((ww.cell? ⟨w5.heap.size,0,none⟩=some (.slice io2 (Zk L R L.length).1.1.length ic2)∧ww.cell? ⟨w5.heap.size,1,none⟩=some (.slice po2 (Zk L R L.length).1.2.length pc2)∧ww.cell? ⟨w5.heap.size,2,none⟩=some (.slice eo2 (Zk L R L.length).2.length ec2)∧ww.cell? ⟨w5.heap.size,3,none⟩=some (.slice ro2 (Zj L R).length rc2))∧ww.cell? ⟨q,0,none⟩=some (.slice io (Zk L R L.length).1.1.length ic)∧ww.cell? ⟨q,1,none⟩=some (.slice po (Zk L R L.length).1.2.length pc)∧ww.cell? ⟨q,2,none⟩=some (.slice eo (Zk L R L.length).2.length ec)∧ww.cell? ⟨q,3,none⟩=some (.slice xo (Zj L R).length xc))∧Hid (CdA ww io2 po2 eo2 ro2 (Zk L R L.length).1 (Zk L R L.length).2 (Zj L R)∧Zt4 ww ro2 (Zj L R)∧CdA ww io po eo xo (Zk L R L.length).1 (Zk L R L.length).2 (Zj L R)∧Za w ww)):=λ w11 w12 k11 k12 ww hk=>by
    have b5:=hk.at0 (k12.at (k11.at0 ((kc).at0 A6.out)) (λ e=>by omega));have bq:=hk.at0 (k12.at (k11.at0 hV.out.2.1) (λ e=>by have:=hV.out.1;omega));obtain ⟨cs,a1,a2,_⟩:=hB.out;obtain ⟨_,_,base,cs', hb,a4,a5⟩:=hV.out;have S5:Za w5 w11:=K5c.trans' k11;have b1:=((a1.keptLow S5 (λ _ f=>f.elim)).keptLow k12 (λ q e=>by omega)).keptLow hk (λ _ f=>f.elim);have b2:=((a2.keptLow S5 (λ _ f=>f.elim)).keptLow k12 (λ q e=>by omega)).keptLow hk (λ _ f=>f.elim);have c1:=((a4.keptLow k11 (λ _ f=>f.elim)).keptLow k12 (λ q e=>by omega)).keptLow hk (λ _ f=>f.elim);have c2:=((a5.keptLow k11 (λ _ f=>f.elim)).keptLow k12 (λ q e=>by omega)).keptLow hk (λ _ f=>f.elim);have hk2:Za w w11:=(K2.trans' (K6.trans' kc)).trans' k11;have zw:=K2.size;exact ⟨⟨⟨Zb b5 0,Zb b5 1,Zb b5 2,Zb b5 3⟩,Zb bq 0,Zb bq 1,Zb bq 2,Zb bq 3⟩,b1.cdA (b2.rgP b1.row),b2.rgAt b1.row,c1.cdA (c2.rgP c1.row),Za.trans' (Zc.trans hk2 k12 (λ i hi e=>by omega)) hk⟩
   obtain ⟨a0,a1,a2,a3⟩:=AA.out wd (Zc.refl _ _);obtain ⟨q0,q1,q2,q3⟩:=QQ.out wd (Zc.refl _ _);clear RA RQ K46c K3c K5c hV hA hB A4 A6 k34 k56 K46 K4 K6 k3 k5 HZ4 HC HD MC DX FIN1 FIN2 HM6 M6 l1 l2 l3 l4 l5 K2 hle z3 z4 z5 z6 zd kc
   go_upto_region 9 with (first | (go_at_call 16;refine C8.mono ?_;rintro e w11 ⟨rfl,k11⟩))
   obtain ⟨a0', a1', a2', a3'⟩:=AA.out w11 k11;have C9' := C9.out w11 k11;clear a0 a1 a2 a3 q0 q1 q2 q3 C8
   go_upto_region 10 with (first | (go_at_call 17;refine C9'.mono ?_;rintro e w12 ⟨⟨u,rfl⟩,k12⟩))
   obtain ⟨⟨⟨y0,y1,y2,y3⟩,y4,y5,y6,y7⟩,HY⟩:=AFT.out w11 w12 k11 k12 w12 (Zc.refl _ _);have HAF:Hid (∀ ww,Za w12 ww->_):=AFT.out w11 w12 k11 k12;obtain ⟨l1,l2,l3,l4,l5⟩:=LEN.out;have C10:=Zbz HY.out.1 HY.out.2.2.1 (by omega) (by omega) (by omega) (by omega) l5 ic2 pc2 ec2 rc2 ic pc ec xc;clear a0' a1' a2' a3' C9 C9' AA QQ AFT HY k11 k12 l1 l2 l3 l4 l5
   go_upto_region 11 with (first | (go_at_call 16;refine C10.mono ?_;rintro e w13 ⟨rfl,k13⟩))
   have CN:∀ ww:World,Calls Tryz.prog 12 #[.nilIface,.slice none 0 0] ww λ e w' => e=.returned (.bool true)∧Za ww w' := λ ww=>Zbq (ws:=[]) rfl ⟨none,0,rfl,.inl rfl⟩ (by simp)
   clear y0 y1 y2 y3 y4 y5 y6 y7 C10;have CN1:=CN w13
   go_upto_region 12 with (first | (go_at_call 12;refine CN1.mono ?_;rintro e w14 ⟨rfl,k14⟩))
   have CN2:=CN w14
   go_upto_region 13 with (first | (go_at_call 12;refine CN2.mono ?_;rintro e w15 ⟨rfl,k15⟩))
   have K15:Za w12 w15:=(k13.trans' k14).trans' k15;clear CN CN1 CN2
   have WBN:Hid (∀ ww (z:Int),Za w12 ww->Jh z (Zj L R).length=false->Calls Tryz.prog 18 #[.agg #[.slice io2 (Zk L R L.length).1.1.length ic2,.slice po2 (Zk L R L.length).1.2.length pc2,.slice eo2 (Zk L R L.length).2.length ec2,.slice ro2 (Zj L R).length rc2],.int .i64 z] ww λ e w' => e=.returned (.tuple #[.int .i64 0,.int .i64 91])∧Za ww w'):=λ ww z hk hz=>by
    have:=Zab (HAF.out ww hk).2.out.2.1 (λ i h=>(LEN.out.2.2.2.2 _ (List.getElem_mem h)).1) io2 po2 eo2 (Zk L R L.length).1.1.length ic2 (Zk L R L.length).1.2.length pc2 (Zk L R L.length).2.length ec2 rc2 z;rw [hz] at this;exact this
   have WBY:Hid (∀ ww (i:Nat) (hi:i<(Zj L R).length),Za w12 ww->Calls Tryz.prog 18 #[.agg #[.slice io2 (Zk L R L.length).1.1.length ic2,.slice po2 (Zk L R L.length).1.2.length pc2,.slice eo2 (Zk L R L.length).2.length ec2,.slice ro2 (Zj L R).length rc2],.int .i64 (i:Int)] ww λ e w' => e=.returned (.tuple #[.int .i64 (wtN ((Zj L R)[i]'hi):Int),.int .i64 0])∧Za ww w'):=λ ww i hi hk=>by
    have:=Zab (HAF.out ww hk).2.out.2.1 (λ i h=>(LEN.out.2.2.2.2 _ (List.getElem_mem h)).1) io2 po2 eo2 (Zk L R L.length).1.1.length ic2 (Zk L R L.length).1.2.length pc2 (Zk L R L.length).2.length ec2 rc2 (i:Int);have h1:Jh (i:Int) (Zj L R).length=true:=by simp [Jh,hi]
    have h2:(Zj L R).getD (i:Int).toNat []=(Zj L R)[i]:=by simp [hi]
    rw [h1,h2] at this;exact this
   have RW:Hid (∀ i (hi:i<(Zj L R).length),∃ rb roff vo vc,xo=some ⟨rb,roff,none⟩∧Hid (∀ ww,Za w12 ww->ww.cell? ⟨rb,roff+i,none⟩=some (.slice vo (Zj L R)[i].length vc)∧Calls Tryz.prog 19 #[.slice vo (Zj L R)[i].length vc] ww λ e w' => e=.returned (.int .i64 (wtN (Zj L R)[i]:Int))∧w' = ww)):=λ i hi=>by
    obtain ⟨rb,roff,vo,vc,e1,c1,c2⟩:=(HAF.out w12 (Zc.refl _ _)).2.out.2.2.1.rgt.get hi;exact ⟨rb,roff,vo,vc,e1,λ ww hk=>⟨(hk.cell (p:=⟨rb,roff+i,none⟩) (World.block_lt_of_cell? _ _ c1) (λ f=>f)).trans c1,Zik (c2.same hk) (LEN.out.2.2.2.2 _ (List.getElem_mem hi)).1 vc⟩⟩
   have hq100:(Zj L R).length<=100:=LEN.out.2.2.2.1;clear LEN;generalize Zj L R=Q at *;generalize (Zk L R L.length).1.1.length=I0 at *;generalize (Zk L R L.length).1.2.length=P0 at *;generalize (Zk L R L.length).2.length=E0 at *
   go_upto_region 16 with fail
   go_loopw [21] (λ s wr=>∃ z:Int, -1<=z∧z<=(Q.length:Int)+1∧s=.int .i64 z∧Za w12 wr) (λ s _=>((Q.length:Int)+1-intOf s).toNat)
   case atStart=>exact ⟨-1,by omega,by omega,rfl,K15⟩
   case round=>
    obtain ⟨z,hz1,hz2,rfl,hw⟩:=hrel;obtain ⟨⟨⟨y0,y1,y2,y3⟩,y4,y5,y6,y7⟩,_⟩:=HAF.out wr hw
    by_cases hlt:z<=(Q.length:Int)
    ·cases hid:Jh z Q.length with
     | false=>
      have WB1:=WBN.out wr z hw hid
      by_cases hneg:z<0
      ·go_upto_region 19 with (first | (go_at_call 18;refine WB1.mono ?_;rintro e w16 ⟨rfl,k16⟩))
       obtain ⟨⟨_,u4,u5,u6,u7⟩,_⟩:=HAF.out w16 (hw.trans' k16)
       go_wp2_with fail
       go_roundw
       case rel=>exact ⟨z+1,by omega,by omega,by go_num,hw.trans' k16⟩
       case measure=>first | (simp [intOf];done) | (simp [intOf];omega)
      ·have hge:z=(Q.length:Int):=by simp [Jh] at hid;omega
       subst hge
       go_upto_region 19 with (first | (go_at_call 18;refine WB1.mono ?_;rintro e w16 ⟨rfl,k16⟩))
       obtain ⟨⟨_,u4,u5,u6,u7⟩,_⟩:=HAF.out w16 (hw.trans' k16)
       go_wp2_with fail
       go_roundw
       case rel=>exact ⟨(Q.length:Int)+1,by omega,by omega,by go_num,hw.trans' k16⟩
       case measure=>first | (simp [intOf];done) | (simp [intOf];omega)
     | true=>
      have hr:0<=z∧z<(Q.length:Int):=by simpa [Jh] using hid
      obtain ⟨i,rfl⟩:∃ i:Nat,z=(i:Int):=⟨z.toNat,by omega⟩;have hi:i<Q.length:=by omega
      have WB1:=WBY.out wr i hi hw;obtain ⟨rb,roff,vo,vc,rfl,RX⟩:=RW.out i hi;have i1:(0:Int)<=(i:Int):=by omega
      have i2:(i:Int)<(Q.length:Int):=by omega
      clear hid hr
      go_upto_region 19 with (first | (go_at_call 18;refine WB1.mono ?_;rintro e w16 ⟨rfl,k16⟩))
      obtain ⟨⟨_,u4,u5,u6,u7⟩,_⟩:=HAF.out w16 (hw.trans' k16);obtain ⟨v1,RW1⟩:=RX.out w16 (hw.trans' k16)
      go_wp2_with (first | (go_at_call 19;refine RW1.mono ?_;rintro e w17 ⟨rfl,rfl⟩))
      go_roundw
      case rel=>exact ⟨(i:Int)+1,by omega,by omega,by go_num,hw.trans' k16⟩
      case measure=>first | (simp [intOf];done) | (simp [intOf];omega)
    ·obtain ⟨⟨_,_⟩,HE⟩:=HAF.out wr hw
     have hcn:¬ z<=(Q.length:Int):=hlt;cases hid:Jh rule Q.length with
     | false=>
      have WB1:=WBN.out wr rule hw hid
      by_cases hneg:rule<0
      ·have hn0:¬ (0:Int)<=rule:=by omega
       go_upto_region 25 with (first | (go_at_call 18;refine WB1.mono ?_;rintro e w16 ⟨rfl,k16⟩))
       obtain ⟨⟨_,u4,u5,u6,u7⟩,HF⟩:=HAF.out w16 (hw.trans' k16)
       go_wp2_with fail
       go_ret;exact ⟨by first | rfl | simp [hn0],HF.out.2.2.2.below⟩
      ·have hn0:(0:Int)<=rule:=by omega
       have hn1:¬ rule<(Q.length:Int):=by simp [Jh] at hid;omega
       go_upto_region 25 with (first | (go_at_call 18;refine WB1.mono ?_;rintro e w16 ⟨rfl,k16⟩))
       obtain ⟨⟨_,u4,u5,u6,u7⟩,HF⟩:=HAF.out w16 (hw.trans' k16)
       go_wp2_with fail
       go_ret;exact ⟨by first | rfl | simp [hn1],HF.out.2.2.2.below⟩
     | true=>
      have hr:0<=rule∧rule<(Q.length:Int):=by simpa [Jh] using hid
      obtain ⟨i,rfl⟩:∃ i:Nat,rule=(i:Int):=⟨rule.toNat,by omega⟩;have hi:i<Q.length:=by omega
      have WB1:=WBY.out wr i hi hw;obtain ⟨i1,i2⟩:=hr;clear hid
      go_upto_region 25 with (first | (go_at_call 18;refine WB1.mono ?_;rintro e w16 ⟨rfl,k16⟩))
      obtain ⟨⟨_,u4,u5,u6,u7⟩,HF⟩:=HAF.out w16 (hw.trans' k16)
      go_wp2_with fail
      go_ret;exact ⟨by first | rfl | simp [i1,i2],HF.out.2.2.2.below⟩
 ·obtain ⟨CPP,DPP⟩:=Zpi (m:=0) (rc:=rc) (mc:=mc) hst hgood hK hdK hzK hall hrl hMR.rs
  have HC:Hid (∀ ww,Za w2 ww->Calls Tryz.prog 14 #[.pointer (some ⟨b,0,none⟩)] ww _):=CPP;have HD:Hid (∀ ww,Za w2 ww->Calls Tryz.prog 15 #[.slice ro L.length rc,.slice mo R.length mc] ww _):=DPP;have CA5:=HC.out w2 (Zc.refl _ _);clear hT hR C1 CS CA hst k1 hmo hMR hgood hall hrl CPP DPP hK hdK hzK;generalize (K:Int)=KK at *
  go_upto_region 6 with (first | (go_at_call 14;refine CA5.mono ?_;rintro e w3 ⟨ea,rfl,hA,k3⟩))
  obtain ⟨w4,hw4⟩:∃ w4,w4=w3.alloc Va:=⟨_,rfl⟩;have k34:Za w3 w4:=by rw [hw4];exact (Zc.refl _ _).alloc _
  have K4:Za w2 w4:=k3.trans' k34;have A4:Hid (w4.heap[w3.heap.size]? = some (.cells #[.slice none 0 0,.slice none 0 0,.slice none 0 0,.slice none 0 0] 51 (0,0))):=by rw [hw4];exact heap_alloc_new _ _
  rw [<- hw4];clear hw4 CA5;have CB6:=HC.out w4 K4
  go_upto_region 7 with (first | (go_at_call 14;refine CB6.mono ?_;rintro e w5 ⟨eb,rfl,hB,k5⟩))
  obtain ⟨w6,hw6⟩:∃ w6,w6=w5.alloc Va:=⟨_,rfl⟩;have k56:Za w5 w6:=by rw [hw6];exact (Zc.refl _ _).alloc _
  have K46:Za w4 w6:=k5.trans' k56;have K6:Za w2 w6:=K4.trans' K46;have A6:Hid (w6.heap[w5.heap.size]? = some (.cells #[.slice none 0 0,.slice none 0 0,.slice none 0 0,.slice none 0 0] 51 (0,0))):=by rw [hw6];exact heap_alloc_new _ _
  rw [<- hw6];clear hw6 CB6;have M6:=MC.out w6 K6;have HM6:Hid (∀ ww,Za w6 ww->ww.cell? ⟨m,0,none⟩=some (.slice ro L.length rc)∧ww.cell? ⟨m,1,none⟩=some (.slice mo R.length mc)):=λ ww hk=>MC.out ww (K6.trans' hk);have DX:Hid (∀ ww,Za w6 ww->Calls Tryz.prog 15 #[.slice ro L.length rc,.slice mo R.length mc] ww _):=λ ww hk=>HD.out ww (K6.trans' hk)
  have FIN1:Hid (∀ (ww w7:World) wo wc,Za w6 w7->Y5 w7 (.slice wo 2 wc) [(81,KK),(82,z)]->Hid ((w7.alloc Va).heap[w7.heap.size]? = some (.cells #[.slice none 0 0,.slice none 0 0,.slice none 0 0,.slice none 0 0] 51 (0,0))∧Y5 (w7.alloc Va) (.slice wo 2 wc) [(81,KK),(82,z)])∧Za w6 (w7.alloc Va)):=by
   intro ww w7 wo wc h2 h3;exact ⟨⟨heap_alloc_new w7 _,h3.same ((Zc.refl _ w7).alloc _)⟩,h2.alloc _⟩
  have FIN2:Hid (∀ (ww w7:World) wo wc,w6.heap.size<ww.heap.size->Za w6 w7->w7.heap[w6.heap.size]? = some (.cells #[.slice none 0 0,.slice none 0 0,.slice none 0 0,.slice none 0 0] 51 (0,0))->Y5 w7 (.slice wo 2 wc) [(81,KK),(82,z)]∧Zrw ww (.slice wo 2 wc)->∃ Z,Hid (Z=(((w7.setCell ⟨w6.heap.size,0,none⟩ (.slice none 0 0)).setCell ⟨w6.heap.size,1,none⟩ (.slice none 0 0)).setCell ⟨w6.heap.size,2,none⟩ (.slice none 0 0)).setCell ⟨w6.heap.size,3,none⟩ (.slice none 0 0))∧Hid (Z.heap[w6.heap.size]? = some (.cells #[.slice none 0 0,.slice none 0 0,.slice none 0 0,.slice none 0 0] 51 (0,0))∧Y5 Z (.slice wo 2 wc) [(81,KK),(82,z)])∧Za w6 Z):=by
   intro ww w7 wo wc h1 h2 hb ⟨h3,h4⟩;obtain ⟨p1,p2⟩:=Zad hb (.slice none 0 0) (.slice none 0 0) (.slice none 0 0) (.slice none 0 0);exact ⟨_,rfl,⟨p1,h3.kept8 p2 (λ b ⟨l', c', e⟩ e2=>by have h8:ww.heap.size<=b:=h4 _ l' c' e;have e' : b=w6.heap.size:=e2;omega)⟩,Zc.trans h2 p2 (λ i hi e=>by have e' : i=w6.heap.size:=e;omega)⟩
  go_cut [15,16] from 50 to 61 (λ s15 s16 wc=>∃ q wo wk,s15=.pointer (some ⟨q,0,none⟩)∧s16=.slice wo 2 wk∧Hid (wc.heap[q]? = some (.cells #[.slice none 0 0,.slice none 0 0,.slice none 0 0,.slice none 0 0] 51 (0,0))∧Y5 wc (.slice wo 2 wk) [(81,KK),(82,z)])∧Za w6 wc)
  case first=>
   have kd:Za w6 w6.drew:=(Zc.refl _ _).drew;have zf9:∀ {w11:World},w11.heap[w6.heap.size]? = some (.cells #[.slice none 0 0,.slice none 0 0,.slice none 0 0,.slice none 0 0] 51 (0,0))->w11.cell? ⟨w6.heap.size,0,none⟩=some (.slice none 0 0)∧w11.cell? ⟨w6.heap.size,1,none⟩=some (.slice none 0 0)∧w11.cell? ⟨w6.heap.size,2,none⟩=some (.slice none 0 0)∧w11.cell? ⟨w6.heap.size,3,none⟩=some (.slice none 0 0)∧w11.frozen? ⟨w6.heap.size,0,none⟩=false∧w11.frozen? ⟨w6.heap.size,1,none⟩=false∧w11.frozen? ⟨w6.heap.size,2,none⟩=false∧w11.frozen? ⟨w6.heap.size,3,none⟩=false:=λ h=>⟨Zb h 0,Zb h 1,Zb h 2,Zb h 3,Zd h 0,Zd h 1,Zd h 2,Zd h 3⟩;clear A4 A6 hA hB k3 k5 k34 k56 K46 K4 K6 HC HD MC K2 hle
   go_region_held3 (λ ww=>ww.cell? ⟨m,0,none⟩=some (.slice ro L.length rc)∧ww.cell? ⟨m,1,none⟩=some (.slice mo R.length mc)) (first | exact M6 | exact cc2 | exact cc3 | exact HM6.out _ (by repeat (first | assumption | exact Zc.refl _ _ | refine Zc.alloc ?_ _ | refine Zc.drew ?_))) (first
    | (go_at_call 15;refine (DX.out _ (by repeat (first | assumption | exact Zc.refl _ _ | refine Zc.alloc ?_ _ | refine Zc.drew ?_))).mono ?_;rintro e w7 ⟨wo,wk,rfl,h7,k7⟩;have K7:Za w6 w7:=Za.trans' (by repeat (first | assumption | exact Zc.refl _ _ | refine Zc.alloc ?_ _ | refine Zc.drew ?_)) k7;have cc2:=HM6.out _ K7;first | (have zb:w7.heap[w6.heap.size]? = some (.cells #[.slice none 0 0,.slice none 0 0,.slice none 0 0,.slice none 0 0] 51 (0,0)):=k7.at0 (heap_alloc_new w6.drew _);obtain ⟨zc0,zc1,zc2,zc3,zf0,zf1,zf2,zf3⟩:=zf9 zb;obtain ⟨Z,hZ,hZ2,hZ3⟩:=FIN2.out (w6.drew.alloc Va) w7 wo wk (by simp) K7 zb h7.out;have HZ3:Hid (Za w6 Z):=hZ3;have cc3:=HM6.out _ hZ3;have HCC:Hid _:=cc3;rw [hZ.out] at cc3;clear hZ3) | skip))
   all_goals
    go_wp2_with fail
    go_meet
    case rel=>
     first
      | exact ⟨_,wo,wk,rfl,rfl,FIN1.out w6.drew w7 wo wk K7 h7.out.1⟩
      | exact ⟨_,wo,wk,rfl,rfl,by rw [<- hZ.out];exact ⟨hZ2,HZ3.out⟩⟩
  case rest=>
   obtain ⟨q,wo,wk,rfl,rfl,hV,kc⟩:=hcut;obtain ⟨wd,rfl⟩:∃ wd:World,wd=wc:=⟨_,rfl⟩
   have QQ:Hid (∀ ww,Za wd ww->(ww.cell? ⟨w3.heap.size,0,none⟩=some (.slice none 0 0)∧ww.cell? ⟨w3.heap.size,1,none⟩=some (.slice none 0 0)∧ww.cell? ⟨w3.heap.size,2,none⟩=some (.slice none 0 0)∧ww.cell? ⟨w3.heap.size,3,none⟩=some (.slice none 0 0))∧(ww.cell? ⟨w5.heap.size,0,none⟩=some (.slice none 0 0)∧ww.cell? ⟨w5.heap.size,1,none⟩=some (.slice none 0 0)∧ww.cell? ⟨w5.heap.size,2,none⟩=some (.slice none 0 0)∧ww.cell? ⟨w5.heap.size,3,none⟩=some (.slice none 0 0))∧(ww.cell? ⟨q,0,none⟩=some (.slice none 0 0)∧ww.cell? ⟨q,1,none⟩=some (.slice none 0 0)∧ww.cell? ⟨q,2,none⟩=some (.slice none 0 0)∧ww.cell? ⟨q,3,none⟩=some (.slice none 0 0))):=λ ww hk=>by
    have h9:=((K46.trans' kc).trans' hk).at0 A4.out;have h5:=(kc.trans' hk).at0 A6.out;have h8:=hk.at0 hV.out.1;exact ⟨⟨Zb h9 0,Zb h9 1,Zb h9 2,Zb h9 3⟩,⟨Zb h5 0,Zb h5 1,Zb h5 2,Zb h5 3⟩,⟨Zb h8 0,Zb h8 1,Zb h8 2,Zb h8 3⟩⟩
   have SA:Hid (∀ ww,Za wd ww->Calls Tryz.prog 12 #[.iface 98 (.pointer (some ⟨ea,0,none⟩)),.slice wo 2 wk] ww λ e w' => e=.returned (.bool true)∧Za ww w'):=λ ww hk=>Zbq (hA.out.same (((k34.trans' K46).trans' kc).trans' hk)) (hV.out.2.same hk) (by simp);have SB:Hid (∀ ww,Za wd ww->Calls Tryz.prog 12 #[.iface 98 (.pointer (some ⟨eb,0,none⟩)),.slice wo 2 wk] ww λ e w' => e=.returned (.bool true)∧Za ww w'):=λ ww hk=>Zbq (hB.out.same ((k56.trans' kc).trans' hk)) (hV.out.2.same hk) (by simp);have HF:Hid (Za w wd):=(K2.trans' K6).trans' kc;obtain ⟨⟨a0,a1,a2,a3⟩,_,q0,q1,q2,q3⟩:=QQ.out wd (Zc.refl _ _);clear hV hA hB A4 A6 k34 k56 K46 K4 K6 k3 k5 HC HD MC DX FIN1 FIN2 HM6 M6 K2 hle kc;have C8:=Zhr wd
   go_upto_region 9 with (first | (go_at_call 16;refine C8.mono ?_;rintro e w11 ⟨rfl,k11⟩))
   obtain ⟨⟨a0', a1', a2', a3'⟩,_,_⟩:=QQ.out w11 k11;have C9:=Zje w11;clear a0 a1 a2 a3 q0 q1 q2 q3 C8
   go_upto_region 10 with (first | (go_at_call 17;refine C9.mono ?_;rintro e w12 ⟨⟨u,rfl⟩,k12⟩))
   have K12:Za wd w12:=k11.trans' k12;obtain ⟨_,⟨y0,y1,y2,y3⟩,y4,y5,y6,y7⟩:=QQ.out w12 K12;have C10:=Zhr w12;clear a0' a1' a2' a3' C9 k11 k12
   go_upto_region 11 with (first | (go_at_call 16;refine C10.mono ?_;rintro e w13 ⟨rfl,k13⟩))
   have K13:Za wd w13:=K12.trans' k13;clear y0 y1 y2 y3 y4 y5 y6 y7 C10;have CN1:=SA.out w13 K13
   go_upto_region 12 with (first | (go_at_call 12;refine CN1.mono ?_;rintro e w14 ⟨rfl,k14⟩))
   have K14:Za wd w14:=K13.trans' k14;have CN2:=SB.out w14 K14
   go_upto_region 13 with (first | (go_at_call 12;refine CN2.mono ?_;rintro e w15 ⟨rfl,k15⟩))
   have K15:Za wd w15:=K14.trans' k15;clear CN1 CN2 SA SB
   go_upto_region 16 with fail
   go_loopw [21] (λ s wr=>∃ z:Int, -1<=z∧z<=1∧s=.int .i64 z∧Za wd wr) (λ s _=>((1:Int)-intOf s).toNat)
   case atStart=>exact ⟨-1,by omega,by omega,rfl,K15⟩
   case round=>
    obtain ⟨i,hz1,hz2,rfl,hw⟩:=hrel;obtain ⟨_,⟨y0,y1,y2,y3⟩,y4,y5,y6,y7⟩:=QQ.out wr hw
    by_cases hlt:i<=0
    ·have WB1:=Zeo wr i
     rcases (by omega:i = -1∨i=0) with rfl | rfl
     ·go_upto_region 19 with (first | (go_at_call 18;refine WB1.mono ?_;rintro e w16 ⟨rfl,k16⟩))
      obtain ⟨_,_,u4,u5,u6,u7⟩:=QQ.out w16 (hw.trans' k16)
      go_wp2_with fail
      go_roundw
      case rel=>exact ⟨0,by omega,by omega,by go_num,hw.trans' k16⟩
      case measure=>first | (simp [intOf];done) | (simp [intOf];omega)
     ·go_upto_region 19 with (first | (go_at_call 18;refine WB1.mono ?_;rintro e w16 ⟨rfl,k16⟩))
      obtain ⟨_,_,u4,u5,u6,u7⟩:=QQ.out w16 (hw.trans' k16)
      go_wp2_with fail
      go_roundw
      case rel=>exact ⟨1,by omega,by omega,by go_num,hw.trans' k16⟩
      case measure=>first | (simp [intOf];done) | (simp [intOf];omega)
    ·have e1:i=1:=by omega
     subst e1;have WB1:=Zeo wr rule
     go_upto_region 25 with (first | (go_at_call 18;refine WB1.mono ?_;rintro e w16 ⟨rfl,k16⟩))
     obtain ⟨_,_,u4,u5,u6,u7⟩:=QQ.out w16 (hw.trans' k16);have FIN:Hid (Za w w16):=(HF.out.trans' hw).trans' k16
     by_cases hn0:(0:Int)<=rule
     ·have hn1:¬ rule<0:=by omega
      go_wp2_with fail
      go_ret;exact ⟨by first | rfl | simp [hn1],FIN.out.below⟩
     ·go_wp2_with fail
      go_ret;exact ⟨by first | rfl | simp [hn0],FIN.out.below⟩
end
end Go.Proofs.YtjahpnbijefncaaGreat
