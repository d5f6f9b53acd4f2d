import Derived.Test.YtjahpnbijefncaaGreatCR27
import Derived.Test.YtjahpnbijefncaaGreatCR26
import Derived.Test.YtjahpnbijefncaaGreatCR15
import Derived.Deep.RegionHeld3
namespace Go.Proofs.YtjahpnbijefncaaGreat
set_option maxRecDepth 100000
set_option linter.unusedVariables false
open Go.RowKit
attribute [local go_sem ↓] Go.wp_at_zero Go.wp_at_succ
theorem ine0 (w:World):(binOp .neq 37 .nilIface .nilIface).run Tryz.prog w=.ok (.bool false) w:=by kernel_rfl
theorem ine1 (v:Value) (w:World):(binOp .neq 37 (.iface 98 v) .nilIface).run Tryz.prog w=.ok (.bool true) w:=by kernel_rfl
set_option maxHeartbeats 32000000 in
theorem crights_walk {w:World} {ao:Option Addr} {len cap:Nat} {xs:List Sym} (hx:SymsAt w ao len xs) (hm:len≤maxLen) {po:Option Addr} {pc:Nat} {l:List Ru} (hp:ArgR w po l pc) {to' : Option Addr} {tc:Nat} {T:List Int} (ht:Arg w to' T tc) :
  Calls Tryz.prog 5 #[.slice ao len cap,.slice po l.length pc,.slice to' T.length tc] w fun e w' => e=.returned (.bool true)∧Below w.heap.size w w' := by
 have hn0:=ine0
 have hn1:=ine1
 have hpn:=ptr_nil
 have hls:l.length≤140737488355328:=by have:=hp.size;omega
 have hts:=ht.size
 have htm:T.length≤maxLen:=by unfold maxLen;omega
 have CA:=awake9_any w
 have CS:Hid (∀ ww,Same0 w ww→Calls Tryz.prog 7 #[.slice ao len cap,.slice po l.length pc] ww (StoPost (madeL xs) l ww)):=fun ww hk=>stored_any (SymsAt.same8 hx hk) hm (hp.at'.same hk) hls hp.cap'
 generalize madeL xs=L at *
 clear hx hp hm hls
 go_enter Tryz.func5,Tryz.ntmps5
 go_upto_region 2 with (first | (go_at_call 13;refine CA.mono ?_;rintro e w1 ⟨rfl,k1⟩))
 have C1:=CS.out w1 k1
 go_upto_region 3 with (first | (go_at_call 7;refine C1.mono ?_;rintro e w2 ⟨bs,b,m,ro,rc,lv,vs,mv,ms,R,rfl,hT,hR⟩))
 have K2:Same0 w w2:=k1.trans' hT.same
 have hst:=hT.st
 have hmo:=hT.mo
 have hgood:=hT.good
 have hle:=hst.le
 have hok:=hst.ok
 have HST:Hid (∀ ww,Same0 w2 ww→StAt ww b bs L R lv vs):=fun ww hk=>hst.same hk
 have HMO:Hid (∀ ww,Same0 w2 ww→ww.cell? ⟨m,0,none⟩=some (.slice ro L.length rc)∧Rl ww.heap.size ww (.slice ro L.length rc) L):=fun ww hk=>⟨cellAt (hmo.same hk).blk 0,(hmo.same hk).rl⟩
 have HTA:Hid (∀ ww,Same0 w2 ww→Arg ww to' T tc):=fun ww hk=>ht.same (K2.trans' hk)
 have HCC:Hid (∀ ww,Same0 w2 ww→Calls Tryz.prog 20 #[.slice ro L.length rc,.slice to' T.length tc] ww fun e w' => e=.returned (.bool (clsB8 L T))∧w' = ww):=fun ww hk=>rclosed8_any (HMO.out ww hk).2 (HTA.out ww hk).at' htm
 clear hT hR C1 CS CA hst hmo k1 ht
 go_upto_region 5 with fail
 rcases first_bad L R L.length with hall | ⟨K,z,hK,hdK,hzK,hall⟩
 ·have CM:Calls Tryz.prog 14 #[.pointer (some ⟨b,0,none⟩)] w2 fun e w' => ∃ io I ic po P pc eo E ec ro' rc', e=.returned (.tuple #[.agg #[.slice io I ic,.slice po P pc,.slice eo E ec,.slice ro' R.length rc'],.nilIface])∧Hid (RgP w' ro' (rightsL L R))∧Same0 w2 w' := by
   refine (compile_ok (HST.out w2 (Kept.refl _ _)) (fun k hk=>hall k hk)).mono ?_
   intro e w' h
   obtain ⟨k,io,ic,po,pc,eo,ec,ro', rc', e1,c⟩:=h.read
   have hRl:(rightsL L R).length=R.length:=by rw [rightsL,List.length_map]
   rw [hRl] at e1
   exact ⟨_,_,_,_,_,_,_,_,_,ro', rc', e1,c.rgt,k⟩
  clear hall
  go_upto_region 6 with (first | (go_at_call 14;refine CM.mono ?_;rintro e w3 ⟨io,I,ic,po1,P0,pc1,eo,E,ec,ro', rc', rfl,hcd,k3⟩))
  obtain ⟨w4,hw4⟩:∃ w4,w4=w3.alloc (.cells #[.slice io I ic,.slice po1 P0 pc1,.slice eo E ec,.slice ro' R.length rc'] 51):=⟨_,rfl⟩
  have k4:Same0 w3 w4:=by rw [hw4];exact (Kept.refl _ _).alloc _
  have K4:Same0 w2 w4:=k3.trans' k4
  have HCD:Hid (∀ ww,Same0 w4 ww→ww.cell? ⟨w3.heap.size,3,none⟩=some (.slice ro' R.length rc')∧RgP ww ro' (rightsL L R)):=fun ww hk=>by
   have h1:=hk.at0 (show w4.heap[w3.heap.size]? = some (.cells #[.slice io I ic,.slice po1 P0 pc1,.slice eo E ec,.slice ro' R.length rc'] 51 (0,0)) by rw [hw4];exact heap_alloc_new w3 _)
   exact ⟨cellAt h1 3,hcd.out.same (k4.trans' hk)⟩
  rw [← hw4]
  clear hw4 CM hcd k3 k4
  obtain ⟨c0, -⟩:=HMO.out w4 K4
  have CC:=HCC.out w4 K4
  cases hcl:clsB8 L T with
  | false=>
   rw [hcl] at CC
   have FIN:Hid (Same0 w w4):=K2.trans' K4
   clear HCD
   go_wp2_with (first | (go_at_call 20;refine CC.mono ?_;rintro e w5 ⟨rfl,rfl⟩))
   go_ret
   exact ⟨rfl,FIN.out.below⟩
  | true=>
   rw [hcl] at CC
   obtain ⟨hc,hcl0⟩:=cls_pos8 hcl
   obtain ⟨t1,t2,t3⟩:=checkE_zero.1 hc
   go_upto_region 9 with (first | (go_at_call 20;refine CC.mono ?_;rintro e w5 ⟨rfl,e5⟩;have e6:=e5.symm;subst e6))
   clear CC c0 hcl hcl0 t2 HCC
   go_wp2_with fail
   go_loopw [14] (fun i wr=>∃ a:Nat,a≤T.length∧i=.int .i64 (a:Int)∧Same0 w4 wr) (fun i _=>T.length-(intOf i).toNat)
   case atStart=>exact ⟨0,Nat.zero_le _,rfl,Kept.refl _ _⟩
   case round=>
    obtain ⟨a,ha,rfl,hw⟩:=hrel
    obtain ⟨wa,rfl⟩:∃ wa,wa=wr:=⟨_,rfl⟩
    by_cases hlt:a<T.length
    ·have i1:(0:Int)≤(a:Int):=by omega
     have i2:(a:Int)<(T.length:Int):=by omega
     have hl3:IntKind.i64.wrap ((a:Int)+1)=(a:Int)+1:=iwrap (by omega) (by omega)
     have hR100:=hle
     go_wp2_with fail
     go_loopw [15] (fun i wr=>∃ j:Nat,j≤R.length∧i=.int .i64 (j:Int)∧Same0 w4 wr) (fun i _=>R.length-(intOf i).toNat)
     case atStart=>exact ⟨0,Nat.zero_le _,rfl,hw⟩
     case round=>
      obtain ⟨j,hj,rfl,hz⟩:=hrel
      obtain ⟨wz,rfl⟩:∃ wz,wz=wr:=⟨_,rfl⟩
      have KZ:Same0 w2 wz:=K4.trans' hz
      have CLN:=slen_any (HST.out wz KZ)
      by_cases hjl:j<R.length
      ·have j1:(0:Int)≤(j:Int):=by omega
       have j2:(j:Int)<(R.length:Int):=by omega
       have j3:¬ (R.length:Int)≤(j:Int):=by omega
       have j4:¬ R.length≤j:=by omega
       have j5:decide (R.length≤j)=false:=decide_eq_false j4
       have hl4:IntKind.i64.wrap ((j:Int)+1)=(j:Int)+1:=iwrap (by omega) (by omega)
       have hmem:=List.getElem_mem hjl
       obtain ⟨hzP,hzG⟩:=hok _ hmem
       obtain ⟨hE, -⟩:=good_match hgood hjl hc hlt
       have hsub:=good_vars hgood _ hmem
       have C3:Calls Tryz.prog 22 #[.pointer (some ⟨b,0,none⟩),.int .i64 (j:Int)] wz fun e w' => ∃ g c g' c', e=.returned (.tuple #[.agg #[.slice (some ⟨g,0,none⟩) R[j].1.length c,.slice (some ⟨g', 0,none⟩) R[j].2.length c'],.int .i64 0])∧Hid (TmAt w' g c R[j].1∧TmAt w' g' c' R[j].2)∧Same0 wz w' := by
        refine (sat_yes (HST.out wz KZ) j hjl).mono ?_
        rintro e w' ⟨v,rfl,⟨g,c,g', c', rfl,h1,h2,_⟩,h3⟩
        exact ⟨g,c,g', c', rfl,⟨h1,h2⟩,h3⟩
       obtain ⟨rb,roff,qo,qc,ero,hqc,hqa⟩:=(HCD.out wz hz).2.get (i:=j) (by rw [rightsL,List.length_map];exact hjl)
       have eQ:(rightsL L R)[j]'(by rw [rightsL,List.length_map];exact hjl)=R[j].2.map (partP L R[j].1):=by simp [rightsL,partsL]
       rw [eQ] at hqc hqa
       rw [List.length_map] at hqc
       have hrb:rb<wz.heap.size:=World.block_lt_of_cell? _ _ hqc
       have HPA:Hid (∀ ww,Same0 wz ww→ww.cell? ⟨rb,roff+j,none⟩=some (.slice qo R[j].2.length qc)∧PaA ww qo (R[j].2.map (partP L R[j].1))):=fun ww hk=>⟨(hk.cell (p:=⟨rb,roff+j,none⟩) hrb (fun f=>f)).trans hqc,hqa.same hk⟩
       subst ero
       have HCF:Hid (∀ ww,Same0 w4 ww→ww.cell? ⟨w3.heap.size,3,none⟩=some (.slice (some ⟨rb,roff,none⟩) R.length rc')):=fun ww hk=>(HCD.out ww hk).1
       clear hmem eQ hqc hqa hrb
       generalize R[j].1=P at *
       generalize R[j].2=G at *
       clear HCD
       go_upto_region 16 with (first
        | (go_at_call 21;refine CLN.mono ?_;rintro e w6 ⟨rfl,e6⟩;have e7:=e6.symm;subst e7)
        | (go_at_call 22;refine C3.mono ?_;rintro e w9 ⟨g,c,g', c', rfl,htm', k9⟩))
       obtain ⟨w10,hw10⟩:∃ w10,w10=w9.alloc (.cells #[.slice (some ⟨g,0,none⟩) P.length c,.slice (some ⟨g', 0,none⟩) G.length c'] 68):=⟨_,rfl⟩
       have k10:Same0 w9 w10:=by rw [hw10];exact (Kept.refl _ _).alloc _
       have K10:Same0 wz w10:=k9.trans' k10
       have HBX:Hid (∀ ww,Same0 w10 ww→ww.cell? ⟨w9.heap.size,0,none⟩=some (.slice (some ⟨g,0,none⟩) P.length c)∧ww.cell? ⟨w9.heap.size,1,none⟩=some (.slice (some ⟨g', 0,none⟩) G.length c')∧TmAt ww g' c' G):=fun ww hk=>by
        have b10:=hk.at0 (show w10.heap[w9.heap.size]? = some (.cells #[.slice (some ⟨g,0,none⟩) P.length c,.slice (some ⟨g', 0,none⟩) G.length c'] 68 (0,0)) by rw [hw10];exact heap_alloc_new w9 _)
        exact ⟨cellAt b10 0,cellAt b10 1,htm'.out.2.same (k10.trans' hk)⟩
       have C4:=imatch_any (tc:=tc) (HST.out w10 (KZ.trans' K10)).sig (htm'.out.1.same k10) hzP (HTA.out w10 (KZ.trans' K10)) htm hE
       obtain ⟨l0, -⟩:=HBX.out w10 (Kept.refl _ _)
       rw [← hw10]
       clear hw10 C3 CLN htm' k9 k10
       cases hS:matchS L P T (a:Int) with
       | none=>
        rw [hS] at C4
        have FINJ:Hid (∀ ww,Same0 w10 ww→Same0 w4 ww):=fun ww hk=>hz.trans' (K10.trans' hk)
        clear HBX HPA HCF hsub hzP hzG hE
        go_wp2_with (first | (go_at_call 23;refine C4.mono ?_;rintro e w11 ⟨bo,bc,rfl,_,k11⟩))
        have KN:=FINJ.out w11 k11
        first | exact ⟨⟨j+1,by omega,by go_num,KN⟩,by simp [intOf];omega⟩ | (go_roundw;case rel=>exact ⟨j+1,by omega,by go_num,KN⟩;case measure=>simp [intOf];omega)
       | some σ=>
        obtain ⟨hmw,hBl⟩:=match_some hE hS
        obtain ⟨ae,aa,hB2⟩:=apply_right hzP hzG hc hlt hmw
        rw [hS,hBl] at C4
        have hB100:(blN σ 100).length≤100:=blN_len σ 100
        have CAP:Hid (∀ ww bo bc,Same0 w10 ww→BindsAt ww bo (blN σ 100)→Calls Tryz.prog 24 #[.pointer (some ⟨bs,0,none⟩),.slice (some ⟨g', 0,none⟩) G.length c', .slice bo (blN σ 100).length bc] ww fun e w' => ∃ ao ac,e=.returned (.tuple #[.slice ao (applyA L G (blN σ 100)).length ac,.int .i64 (applyE L G (blN σ 100))])∧Hid (IntsAt w' ao (applyA L G (blN σ 100)))∧Same0 ww w'):=fun ww bo bc hk hb=>iapply_any (HST.out ww (KZ.trans' (K10.trans' hk))).sig (HBX.out ww hk).2.2 hzG hb hB100 hB2 bc
        rw [ae] at CAP
        have hAA:Hid (¬ 2000<(appT σ G).length→applyA L G (blN σ 100)=appT σ G):=aa
        -- the parts of the right side
        have HPT:Hid (∀ k (hk:k<G.length),G[k]<0→∃ q:Nat,partP L P G[k]=(-1,pathA L P (idxI P G[k]))∧q<T.length∧(pathA L P (idxI P G[k])).length≤2000∧0<(inst σ G[k]).length∧(∀ ww xo xc,Same0 w2 ww→IntsAt ww xo (pathA L P (idxI P G[k]))→Calls Tryz.prog 25 #[.slice ro L.length rc,.slice to' T.length tc,.int .i64 (a:Int),.slice xo (pathA L P (idxI P G[k])).length xc] ww fun e w' => e=.returned (.int .i64 (q:Int))∧Same0 ww w')∧∀ ww,Same0 w2 ww→Calls Tryz.prog 26 #[.slice ro L.length rc,.slice to' T.length tc,.int .i64 (q:Int)] ww fun e w' => ∃ ub uf uc,e=.returned (.slice (some ⟨ub,uf,none⟩) (inst σ G[k]).length uc)∧IntsAt w' (some ⟨ub,uf,none⟩) (inst σ G[k])∧Same0 ww w'):=fun k hk hn=>by
         obtain ⟨q,q1,q2,q3⟩:=part_lead hzP hc hlt hmw (hsub _ (List.getElem_mem hk) hn) hn
         have hpos:=inst_term hzP hc hlt hmw hn
         have hpl:=pathA_len L P (idxI P G[k]) (checkE_zero.1 hzP).1
         refine ⟨q,by rw [partP,if_neg (by omega)],q2,hpl,hpos,fun ww xo xc hk2 hi=>?_,fun ww hk2=>?_⟩
         ·have h0:=rfromA_any (cap:=tc) (pcap:=xc) (HMO.out ww hk2).2 (HTA.out ww hk2).at' t1 t3 hlt hi (by unfold maxLen;omega)
          rw [leadRA,q1] at h0
          exact h0
         ·exact rsubH_any (HMO.out ww hk2).2 (HTA.out ww hk2) t1 t3 q2 q3 hpos
        clear ae aa hB2 hB100 hsub hzP hE hS hmw hBl
        generalize applyA L G (blN σ 100)=AA at *
        go_upto_region 17 with (first | (go_at_call 23;refine C4.mono ?_;rintro e w11 ⟨bo,bc,rfl,hBB,k11⟩))
        have K11:Same0 wz w11:=K10.trans' k11
        have C5:=CAP.out w11 bo bc k11 hBB.out
        obtain ⟨-,l1, -⟩:=HBX.out w11 k11
        generalize blN σ 100=BB at *
        clear l0 C4 hBB CAP HBX
        by_cases hbig:2000<(appT σ G).length
        ·rw [if_pos hbig] at C5
         have FINJ:Hid (∀ ww,Same0 w11 ww→Same0 w ww):=fun ww hk=>K2.trans' (KZ.trans' (K11.trans' hk))
         clear HPT hAA HPA HCF hzG
         go_wp2_with (first | (go_at_call 24;refine C5.mono ?_;rintro e w12 ⟨wo,wc,rfl,hW,k12⟩))
         have KF:=FINJ.out w12 k12
         go_ret
         exact ⟨rfl,KF.below⟩
        ·rw [if_neg hbig,hAA.out hbig] at C5
         have HSZ:Hid (∀ k,(appT σ (G.take k)).length≤2000):=fun k=>by have:=app_take_le σ G k;omega
         have hG2:G.length≤2000:=(checkE_zero.1 hzG).1
         clear hAA hzG hbig
         have f3:=HCF.out w11 (hz.trans' K11)
         go_upto_region 19 with (first | (go_at_call 24;refine C5.mono ?_;rintro e w12 ⟨wo,wc,rfl,hW,k12⟩))
         have K12:Same0 wz w12:=K11.trans' k12
         have f4:=HCF.out w12 (hz.trans' K12)
         clear C5 l1 f3
         go_upto_region 22 with fail
         clear f4
         go_wp2_with fail
         go_loopw [23,24] (fun v kv wr=>∃ k:Nat,k≤G.length∧kv=.int .i64 (k:Int)∧Same0 w12 wr∧Hid (Row w12.heap.size wr v (appT σ (G.take k)))) (fun _ kv _=>G.length-(intOf kv).toNat)
         case atStart=>exact ⟨0,Nat.zero_le _,rfl,Kept.refl _ _,by show Row _ _ _ _;rw [List.take_zero,app_nil];exact World.ownsRow_nil _ _ _ _⟩
         case round=>
          obtain ⟨k,hk,rfl,hy,hrow⟩:=hrel
          obtain ⟨wy,rfl⟩:∃ wy,wy=wr:=⟨_,rfl⟩
          have KY:Same0 wz wy:=K12.trans' hy
          have g3:=HCF.out wy (hz.trans' KY)
          obtain ⟨g4,hpa⟩:=HPA.out wy KY
          by_cases hkl:k<G.length
          ·have k1:(0:Int)≤(k:Int):=by omega
           have k2:(k:Int)<(G.length:Int):=by omega
           have hl5:IntKind.i64.wrap ((k:Int)+1)=(k:Int)+1:=iwrap (by omega) (by omega)
           obtain ⟨pb,poff,xo,xc,eqo,p0,p1,pI⟩:=hpa.get (i:=k) (by rw [List.length_map];exact hkl)
           rw [List.getElem_map] at p0 p1 pI
           have hnx:=app_succ σ hkl
           have hs1:=HSZ.out k
           have hs2:=HSZ.out (k+1)
           subst eqo
           by_cases hx0:0≤G[k]
           ·have eP:partP L P G[k]=(G[k],[]):=by rw [partP,if_pos hx0]
            have eI:inst σ G[k]=[G[k]]:=by rw [inst,if_pos (.inl hx0)]
            rw [eP] at p0 p1
            rw [eI] at hnx
            have HNX:Hid (appT σ (G.take (k+1))=appT σ (G.take k) ++ [G[k]]):=hnx
            have HY:Hid (∀ ww,Same0 wy ww→Same0 w12 ww):=fun ww hk2=>hy.trans' hk2
            clear HPT HPA HCF hpa pI eP eI hnx hs2
            generalize appT σ (G.take k)=X at *
            generalize G[k]=y at *
            go_upto_region 26 with fail
            obtain ⟨w13,hw13⟩:∃ w13,w13=wy.alloc (.cells #[.int .i64 y,.slice xo 0 xc] 77):=⟨_,rfl⟩
            have k13:Same0 wy w13:=by rw [hw13];exact (Kept.refl _ _).alloc _
            have b13:w13.heap[wy.heap.size]? = some (.cells #[.int .i64 y,.slice xo 0 xc] 77 (0,0)):=by rw [hw13];exact heap_alloc_new wy _
            have e0:=cellAt b13 0
            simp only [List.getElem?_toArray,List.getElem?_cons_zero] at e0
            rw [← hw13]
            have hrow13:=k13.row hrow.out (fun _ _ f=>f)
            have hz13:w12.heap.size≤w13.heap.size:=(HY.out w13 k13).size
            have hsz8:(X.length+1) * 8≤140737488355328:=by omega
            clear hw13 b13 hrow p0 p1 g3 g4
            go_wp2_with (first | (at_builtin;refine wpList_push rfl _ _ 64 rfl Tryz.underlying64 w12.heap.size X _ rfl hrow13 y rfl hz13 hsz8 ?_;intro g9 gcap w14 hr14 hk14 _))
            have KN:Same0 w12 w14:=(HY.out w13 k13).onto hrow13 hk14
            have RN:Hid (Row w12.heap.size w14 (.slice (some ⟨g9,0,none⟩) (X.length+1) gcap) (appT σ (G.take (k+1)))):=by show Row _ _ _ _;rw [HNX.out];exact hr14
            go_roundw
            case rel=>first | exact ⟨k+1,by omega,by go_num,KN,RN⟩ | ((repeat apply Exists.intro);exact ⟨⟨k+1,by omega,by go_num,KN,RN⟩,rfl⟩)
            case measure=>first | (simp [intOf];done) | (simp [intOf];omega)
           ·obtain ⟨q,eP,hq,hpl,hpos,CF,CSB⟩:=HPT.out k hkl (by omega)
            rw [eP] at p0 p1 pI
            have HNX:Hid (appT σ (G.take (k+1))=appT σ (G.take k)++inst σ G[k]):=hnx
            have hs3:(appT σ (G.take k)).length+(inst σ G[k]).length≤2000:=by rw [hnx,List.length_append] at hs2;exact hs2
            have HY:Hid (∀ ww,Same0 wy ww→Same0 w12 ww):=fun ww hk2=>hy.trans' hk2
            have HMY:Hid (∀ ww,Same0 wy ww→ww.cell? ⟨m,0,none⟩=some (.slice ro L.length rc)):=fun ww hk2=>(HMO.out ww (KZ.trans' (KY.trans' hk2))).1
            have HCF1:Hid (∀ ww xo xc,Same0 wy ww→IntsAt ww xo (pathA L P (idxI P G[k]))→Calls Tryz.prog 25 #[.slice ro L.length rc,.slice to' T.length tc,.int .i64 (a:Int),.slice xo (pathA L P (idxI P G[k])).length xc] ww fun e w' => e=.returned (.int .i64 (q:Int))∧Same0 ww w'):=fun ww xo xc hk2 hi=>CF ww xo xc (KZ.trans' (KY.trans' hk2)) hi
            have HSB1:Hid (∀ ww,Same0 wy ww→Calls Tryz.prog 26 #[.slice ro L.length rc,.slice to' T.length tc,.int .i64 (q:Int)] ww fun e w' => ∃ ub uf uc,e=.returned (.slice (some ⟨ub,uf,none⟩) (inst σ G[k]).length uc)∧IntsAt w' (some ⟨ub,uf,none⟩) (inst σ G[k])∧Same0 ww w'):=fun ww hk2=>CSB ww (KZ.trans' (KY.trans' hk2))
            have HPI:Hid (∀ ww,Same0 wy ww→IntsAt ww xo (pathA L P (idxI P G[k]))):=fun ww hk2=>pI.same hk2
            have qn:¬ (q:Int)<0:=by omega
            clear HPT HPA HCF hpa pI eP hnx hs2 CF CSB hx0 hq hpos
            generalize appT σ (G.take k)=X at *
            generalize inst σ G[k]=U at *
            generalize pathA L P (idxI P G[k])=path at *
            go_upto_region 26 with fail
            obtain ⟨w13,hw13⟩:∃ w13,w13=wy.alloc (.cells #[.int .i64 (-1),.slice xo path.length xc] 77):=⟨_,rfl⟩
            have k13:Same0 wy w13:=by rw [hw13];exact (Kept.refl _ _).alloc _
            have HB13:Hid (∀ ww,Same0 w13 ww→ww.cell? ⟨wy.heap.size,0,none⟩=some (.int .i64 (-1))∧ww.cell? ⟨m,0,none⟩=some (.slice ro L.length rc)∧ww.cell? ⟨wy.heap.size,1,none⟩=some (.slice xo path.length xc)):=fun ww hk2=>by
             have b13:=hk2.at0 (show w13.heap[wy.heap.size]? = some (.cells #[.int .i64 (-1),.slice xo path.length xc] 77 (0,0)) by rw [hw13];exact heap_alloc_new wy _)
             exact ⟨cellAt b13 0,HMY.out ww (k13.trans' hk2),cellAt b13 1⟩
            rw [← hw13]
            clear hw13 p0 p1 g3 g4
            obtain ⟨e0,e1⟩:=HB13.out w13 (Kept.refl _ _)
            go_upto_region 28 with fail
            clear e0
            go_cut [26] from 108 to 153 (fun s26 wc=>s26=.int .i64 (q:Int)∧Same0 w13 wc)
            case first=>
             have kd:Same0 w13 w13.drew:=Kept.drew (Kept.refl _ _)
             have C9:=HCF1.out w13.drew xo xc (k13.trans' kd) (HPI.out _ (k13.trans' kd))
             clear HCF1 HPI
             go_region_held3 (fun w' => w'.cell? ⟨m,0,none⟩=some (.slice ro L.length rc)∧w'.cell? ⟨wy.heap.size,1,none⟩=some (.slice xo path.length xc)) (first | exact e1 | exact cc1) (first
              | (go_at_call 25;refine C9.mono ?_;rintro e w15 ⟨rfl,k15⟩;have k915:=kd.trans' k15;have cc1:=(HB13.out w15 k915).2))
             all_goals
              go_wp2_with fail
              go_meet
              case rel=>first | exact ⟨rfl,k915⟩ | ((repeat apply Exists.intro);exact ⟨⟨rfl,k915⟩,rfl⟩)
            case rest=>
             obtain ⟨rfl,kc⟩:=hcut
             obtain ⟨wx,rfl⟩:∃ wx,wx=wc:=⟨_,rfl⟩
             have KX:Same0 wy wx:=k13.trans' kc
             have C9:=HSB1.out wx KX
             have e2:=HMY.out wx KX
             have HRX:Hid (∀ ww,Same0 wx ww→Row w12.heap.size ww _ X∧w12.heap.size≤ww.heap.size):=fun ww hk2=>⟨(KX.trans' hk2).row hrow.out (fun _ _ f=>f),(HY.out ww (KX.trans' hk2)).size⟩
             have hs8:(X.length+U.length) * 8≤140737488355328:=by omega
             clear hrow HCF1 HPI HB13 e1 HSB1
             go_wp2_with (first
              | (go_at_call 26;refine C9.mono ?_;rintro e w16 ⟨ub,uf,uc,rfl,hu,k16⟩;obtain ⟨hr16,hz16⟩:=HRX.out w16 k16)
              | (at_builtin;refine wpList_more rfl _ _ 64 rfl Tryz.underlying64 w12.heap.size X _ rfl hr16 U _ _ _ rfl rfl hu hz16 hs8 ?_;intro v17 w17 hr17 hk17))
             have KN:Same0 w12 w17:=(HY.out w16 (KX.trans' k16)).onto hr16 hk17
             have RN:Hid (Row w12.heap.size w17 v17 (appT σ (G.take (k+1)))):=by show Row _ _ _ _;rw [HNX.out];exact hr17
             go_roundw
             case rel=>first | exact ⟨k+1,by omega,by go_num,KN,RN⟩ | ((repeat apply Exists.intro);exact ⟨⟨k+1,by omega,by go_num,KN,RN⟩,rfl⟩)
             case measure=>first | (simp [intOf];done) | (simp [intOf];omega)
          ·have ek:k=G.length:=by omega
           subst ek
           have k2:¬ (G.length:Int)<(G.length:Int):=by omega
           have hr9:=hrow.out
           rw [List.take_length] at hr9
           obtain ⟨vo,vc,rfl,iv9,_⟩:=hr9.ints
           have hs3:(appT σ G).length≤maxLen:=by have:=HSZ.out G.length;rw [List.take_length] at this;unfold maxLen;omega
           have CE:Calls Tryz.prog 27 #[.slice vo (appT σ G).length vc,.slice wo (appT σ G).length wc] wy fun e w' => e=.returned (.bool true)∧Same0 wy w' := by
            refine (same_any iv9 (hW.out.same hy) hs3).mono ?_
            rintro e w' ⟨rfl,hk2⟩
            exact ⟨by simp [sameB],hk2⟩
           have FINJ:Hid (∀ ww,Same0 wy ww→Same0 w4 ww):=fun ww hk2=>hz.trans' (KY.trans' hk2)
           clear HPT HPA HCF hpa hrow hr9 iv9 hW HSZ hs3
           generalize appT σ G=X at *
           go_wp2_with (first | (go_at_call 27;refine CE.mono ?_;rintro e w18 ⟨rfl,k18⟩))
           have KN:=FINJ.out w18 k18
           first | exact ⟨⟨j+1,by omega,by go_num,KN⟩,by simp [intOf];omega⟩ | (go_roundw;case rel=>exact ⟨j+1,by omega,by go_num,KN⟩;case measure=>simp [intOf];omega)
      ·have j2:¬ (j:Int)<(R.length:Int):=by omega
       go_wp2_with (first | (go_at_call 21;refine CLN.mono ?_;rintro e w6 ⟨rfl,e6⟩;have e7:=e6.symm;subst e7))
       first | exact ⟨⟨a+1,by omega,by go_num,hz⟩,by simp [intOf];omega⟩ | (go_roundw;case rel=>exact ⟨a+1,by omega,by go_num,hz⟩;case measure=>simp [intOf];omega)
    ·have i2:¬ (a:Int)<(T.length:Int):=by omega
     have FIN:Hid (Same0 w wa):=(K2.trans' K4).trans' hw
     clear HTA HMO HST hgood hc HCD
     go_wp2_with fail
     go_ret
     exact ⟨rfl,FIN.out.below⟩
 ·have CM:=compile_err (HST.out w2 (Kept.refl _ _)) hK hdK hzK hall
  go_upto_region 6 with (first | (go_at_call 14;refine CM.mono ?_;rintro e w3 ⟨q,rfl,_,k3⟩))
  obtain ⟨w4,hw4⟩:∃ w4,w4=w3.alloc (.cells #[.slice none 0 0,.slice none 0 0,.slice none 0 0,.slice none 0 0] 51):=⟨_,rfl⟩
  have k4:Same0 w3 w4:=by rw [hw4];exact (Kept.refl _ _).alloc _
  have K4:Same0 w2 w4:=k3.trans' k4
  rw [← hw4]
  obtain ⟨c0, -⟩:=HMO.out w4 K4
  have CC:=HCC.out w4 K4
  have FIN:Hid (Same0 w w4):=K2.trans' K4
  clear hw4 CM hall hdK hzK hgood hok HST HTA HMO HCC k3 k4
  generalize clsB8 L T=cb at *
  go_wp2_with (first | (go_at_call 20;refine CC.mono ?_;rintro e w5 ⟨rfl,rfl⟩))
  go_ret
  exact ⟨rfl,FIN.out.below⟩
end Go.Proofs.YtjahpnbijefncaaGreat
