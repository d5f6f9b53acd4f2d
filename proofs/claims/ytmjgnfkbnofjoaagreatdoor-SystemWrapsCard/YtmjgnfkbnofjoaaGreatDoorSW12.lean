import Derived.Test.YtmjgnfkbnofjoaaGreatDoorSW11
namespace Go.Proofs.YtmjgnfkbnofjoaaGreatDoor
set_option maxRecDepth 100000
set_option linter.unusedVariables false
open Go.RowKit
attribute [local go_sem ↓] Go.wp_at_zero Go.wp_at_succ
def KidCut (W1:World) (bs:Nat) (Q:List (List Int)) (wr:World) (s13:Value) (wc:World):Prop:=
 ∃ kb vo vc,s13=.pointer (some ⟨kb,0,none⟩)∧W1.heap.size≤kb∧wc.heap[kb]? = some (.cells #[.pointer (some ⟨bs,0,none⟩),.slice vo Q.length vc,.slice none 0 0] 181 (0,0))∧PsAt wc vo Q∧(vo=none→vc=0)∧Q.length≤vc∧Same0 wr wc
abbrev zeroNd:Obj:=.cells #[.pointer none,.slice none 0 0,.slice none 0 0] 181
theorem kidcut_a {W1 wr w8:World} {bs vc:Nat} {Q:List (List Int)} {vo:Option Addr} (h1:Same0 W1 wr) (h2:Same0 wr w8) (hp:PsAt w8 vo Q) (hn:vo=none→vc=0) (hl:Q.length≤vc):KidCut W1 bs Q wr (.pointer (some ⟨w8.heap.size,0,none⟩)) (w8.alloc (.cells #[.pointer (some ⟨bs,0,none⟩),.slice vo Q.length vc,.slice none 0 0] 181)):=
 ⟨_,vo,vc,rfl,(h1.trans' h2).size,heap_alloc_new _ _,hp.same ((Kept.refl _ _).alloc _),hn,hl,h2.alloc _⟩
theorem kidcut_b {W1 wr w8:World} {bs vc:Nat} {Q:List (List Int)} {vo:Option Addr} (h1:Same0 W1 wr) (h2:Same0 (wr.alloc zeroNd).drew w8) (hp:PsAt w8 vo Q) (hn:vo=none→vc=0) (hl:Q.length≤vc) :
  KidCut W1 bs Q wr (.pointer (some ⟨wr.heap.size,0,none⟩)) (((w8.setCell ⟨wr.heap.size,0,none⟩ (.pointer (some ⟨bs,0,none⟩))).setCell ⟨wr.heap.size,1,none⟩ (.slice vo Q.length vc)).setCell ⟨wr.heap.size,2,none⟩ (.slice none 0 0)):=by
 have hb:w8.heap[wr.heap.size]? = some (.cells #[.pointer none,.slice none 0 0,.slice none 0 0] 181 (0,0)):=h2.at0 (heap_alloc_new wr _)
 have ha:Same0 wr (wr.alloc zeroNd).drew:=((Kept.refl _ wr).alloc _).drew
 have hk:Same0 wr w8:=ha.trans' h2
 have s1:=setAt hb 0 (.pointer (some ⟨bs,0,none⟩))
 have s2:=setAt s1 1 (.slice vo Q.length vc)
 have s3:=setAt s2 2 (.slice none 0 0)
 have kk:Kept (fun q=>q=wr.heap.size) w8 (((w8.setCell ⟨wr.heap.size,0,none⟩ (.pointer (some ⟨bs,0,none⟩))).setCell ⟨wr.heap.size,1,none⟩ (.slice vo Q.length vc)).setCell ⟨wr.heap.size,2,none⟩ (.slice none 0 0)):=by
  have k1:=Kept.setCell (p:=⟨wr.heap.size,0,none⟩) (Kept.refl (fun q=>q=wr.heap.size) w8) (fun _=>rfl) (.pointer (some ⟨bs,0,none⟩))
  have k2:=Kept.setCell (p:=⟨wr.heap.size,1,none⟩) k1 (fun _=>rfl) (.slice vo Q.length vc)
  exact Kept.setCell (p:=⟨wr.heap.size,2,none⟩) k2 (fun _=>rfl) (.slice none 0 0)
 exact ⟨_,vo,vc,rfl,h1.size,s3,hp.keptN kk (fun q e=>by subst e;exact ⟨_,hb⟩),hn,hl,Kept.trans hk kk (fun i hi e=>by omega)⟩
set_option maxHeartbeats 16000000 in
theorem kid_any {w:World} {L:List Sym} {bs:Nat} {po:Option Addr} {pc:Nat} {P:List (List Int)} {c s:Nat} {ho:Option Addr} {H:List Rw} (h:KidIn w L bs po pc P c s ho H) {no:Option Addr} {nl nc hcap:Nat} :
  Calls Tryz.prog 131 #[.agg #[.pointer (some ⟨bs,0,none⟩),.slice po P.length pc,.slice no nl nc],.int .i64 (c:Int),.int .i64 (s:Int),.slice ho H.length hcap] w (KidOut w L bs P c s H):=by
 have hc:=h.c'
 have hs' := h.s'
 have hle:=h.le
 have hfew:=h.few
 have hpl:=h.len _ (List.getElem_mem hc)
 have har:((arN L (s:Int):Nat):Int)=L[s].ar:=ar_of h.sig.2 h.s'
 have hA6:=arN_le h.sig.2 (s:Int)
 obtain ⟨W1,hW1⟩:∃ W1,W1=(w.alloc (.cells #[.pointer (some ⟨bs,0,none⟩),.slice po P.length pc,.slice no nl nc] 181)).alloc (.cells #[.pointer none,.slice none 0 0,.slice none 0 0] 181):=⟨_,rfl⟩
 have KW:Same0 w W1:=by rw [hW1];exact ((Kept.refl _ w).alloc _).alloc _
 have HH:Hid (∀ ww,Same0 W1 ww→KidIn ww L bs po pc P c s ho H):=fun ww hk=>h.same (KW.trans' hk)
 have BX:Hid (∀ ww,Same0 W1 ww→ww.cell? ⟨w.heap.size,0,none⟩=some (.pointer (some ⟨bs,0,none⟩))∧ww.cell? ⟨w.heap.size,1,none⟩=some (.slice po P.length pc)):=fun ww hk=>by
  have hb:W1.heap[w.heap.size]? = some (.cells #[.pointer (some ⟨bs,0,none⟩),.slice po P.length pc,.slice no nl nc] 181 (0,0)):=by rw [hW1];exact heap_alloc2_old _ _ _
  exact ⟨cellAt (hk.at0 hb) 0,cellAt (hk.at0 hb) 1⟩
 have RS:Hid (∀ ww,Same0 W1 ww→ww.heap[w.heap.size+1]? = some (.cells #[.pointer none,.slice none 0 0,.slice none 0 0] 181 (0,0))):=fun ww hk=>hk.at0 (by rw [hW1];exact heap_al_al _ _ _)
 have CA:Hid (∀ ww,Same0 W1 ww→Calls Tryz.prog 128 #[.pointer (some ⟨bs,0,none⟩),.int .i64 (s:Int)] ww fun e w' => e=.returned (.tuple #[.agg #[.string L[s].name,.int .i64 ((arN L (s:Int):Nat):Int),.bool L[s].df],.int .i64 0])∧Same0 ww w'):=fun ww hk=>by
  have:=sg_at_yes (HH.out ww hk).sig h.s'
  rw [har]
  exact this
 obtain ⟨pb,poff,ao,ac,rfl,hpb,hcell,hArg⟩:=h.ps.get hc
 have PC:Hid (∀ ww,Same0 w ww→ww.cell? ⟨pb,poff+c,none⟩=some (.slice ao P[c].length ac)):=fun ww hk=>(hk.cell (p:=⟨pb,poff+c,none⟩) hpb (fun f=>f)).trans hcell
 have CAT:Hid (∀ (ww:World) (k:Nat),Same0 w ww→Calls Tryz.prog 180 #[.slice (some ⟨ww.heap.size+1,0,none⟩) 2 2] ((ww.alloc (.cells #[.int .i64 (k:Int)] 3)).alloc (.cells #[.slice ao P[c].length ac,.slice (some ⟨ww.heap.size,0,none⟩) 1 1] 51)) fun e w' => ∃ vo vc,e=.returned (.slice vo (P[c].length+1) vc)∧Hid (ArgT w' vo (P[c] ++ [(k:Int)]) vc)∧Same0 ww w'):=by
  intro ww k hk
  have k1:Same0 ww (ww.alloc (.cells #[.int .i64 (k:Int)] 3)):=(Kept.refl _ _).alloc _
  have k2:Same0 (ww.alloc (.cells #[.int .i64 (k:Int)] 3)) ((ww.alloc (.cells #[.int .i64 (k:Int)] 3)).alloc (.cells #[.slice ao P[c].length ac,.slice (some ⟨ww.heap.size,0,none⟩) 1 1] 51)):=(Kept.refl _ _).alloc _
  have s1:Src ((ww.alloc (.cells #[.int .i64 (k:Int)] 3)).alloc (.cells #[.slice ao P[c].length ac,.slice (some ⟨ww.heap.size,0,none⟩) 1 1] 51)) (some ⟨ww.heap.size,0,none⟩) 1 1 (iv [(k:Int)]):=((ints_arg ww [(k:Int)] 3 (by simp) rfl).src).same k2
  refine (concat2_nums (heap_al_al _ _ _) ((hArg.1.same ((hk.trans' k1).trans' k2)).src) s1 (by omega)).mono ?_
  rintro e w' ⟨v,rfl,hr,hk3⟩
  have hr' : Row ww.heap.size w' v (P[c] ++ [(k:Int)]):=by
   unfold Row
   rw [iv_append,List.length_append]
   exact row_mono hr (by simp only [World.size_alloc];omega)
  obtain ⟨vo,vc,rfl,a1,_⟩:=hr'.arg (by simp;omega)
  exact ⟨vo,vc,by simp,a1,(k1.trans' k2).trans' hk3⟩
 obtain ⟨i,hi,hz0,hz1,hz2⟩:=info_parts info_paths
 generalize hA:arN L (s:Int)=A at *
 have HA:Hid (arN L (s:Int)=A):=hA
 have hPc:Hid (P.getD c []=P[c]):=getD_lt hc []
 clear hA har hcell hArg h
 go_enter Tryz.func131,Tryz.ntmps131
 go_upto_region 1 with fail
 rw [← hW1]
 have ez:w.heap.size+1<W1.heap.size:=by rw [hW1];simp
 clear hW1
 obtain ⟨b0,b1⟩:=BX.out W1 (Kept.refl _ _)
 have C1:=CA.out W1 (Kept.refl _ _)
 go_wp2_with (first
  | (go_at_call 128;refine C1.mono ?_;rintro e w2 ⟨rfl,hk2⟩)
  | (at_make;refine wpList_make_full _ rfl _ _ 50 rfl w.heap.size 51 i _ 1 Tryz.underlying50 hi hz0 hz1 _ _ _ _ A rfl rfl rfl rfl (by rw [hz2];omega) (by unfold maxLen;omega) (Nat.le_trans KW.size (Nat.le_trans hk2.size (by simp))) ?_;intro w3 hown hgrow;have hk3:Same0 (w2.alloc (.cells #[.string L[s].name,.int .i64 (A:Int),.bool L[s].df] 60)) w3:=Same0.grown (Kept.refl _ _) hgrow;have y1:w3.cell? ⟨w2.heap.size,1,none⟩=some (.int .i64 (A:Int)):=cellAt (hk3.at0 (heap_alloc_new w2 _)) 1))
 simp only [World.size_alloc] at hown
 have k3:Same0 W1 w3:=hk2.trans' (Same0.trans' ((Kept.refl _ w2).alloc _) hk3)
 obtain ⟨g,hg⟩:∃ g,g=w2.heap.size+1:=⟨_,rfl⟩
 have hgW:W1.heap.size≤g:=by rw [hg];have:=hk2.size;omega
 rw [← hg] at hown ⊢
 have L0:Hid (LaidQ w.heap.size g A 0 (belowP L P c 0) W1 w3):=⟨_,hown,by simpa [belowP] using PCells.nil w3,k3⟩
 clear hown hgrow hk3 y1 hg C1 b0 b1 CA hi hz0 hz1 hz2
 go_loopw [30] (fun i wr=>∃ k:Nat,k≤A∧i=.int .i64 (k:Int)∧Hid (LaidQ w.heap.size g A k (belowP L P c k) W1 wr)) (fun i _=>A-(intOf i).toNat)
 case atStart=>exact ⟨0,Nat.zero_le _,rfl,L0⟩
 case round=>
  clear L0
  obtain ⟨k,hkA,rfl,hL⟩:=hrel
  have kr:Same0 W1 wr:=by obtain ⟨_,_,_,q⟩:=hL.out;exact q
  obtain ⟨b0,b1⟩:=BX.out wr kr
  by_cases hlt:k<A
  ·obtain ⟨old,f1,f2⟩:=hL.out.cell hlt
   have p1:=PC.out wr (KW.trans' kr)
   have CC:=CAT.out wr k (KW.trans' kr)
   have i1:(0:Int)≤(c:Int):=by omega
   have i2:(c:Int)<(P.length:Int):=by omega
   have i3:(0:Int)≤(k:Int):=by omega
   have i4:(k:Int)<(A:Int):=by omega
   have FIN:Hid (∀ w5 vo vc,Same0 wr w5→ArgT w5 vo (P[c] ++ [(k:Int)]) vc→(∃ old,w5.cell? ⟨g,k,none⟩=some old∧w5.frozen? ⟨g,k,none⟩=false)∧Hid (LaidQ w.heap.size g A (k+1) (belowP L P c (k+1)) W1 (w5.setCell ⟨g,k,none⟩ (.slice vo (P[c].length+1) vc)))):=fun w5 vo vc k5 a5=>by
    have l5:=hL.out.same k5
    refine ⟨l5.cell hlt,?_⟩
    show LaidQ _ _ _ _ _ _ _
    have:=l5.next hlt hgW a5
    rw [belowP_succ,hPc.out]
    simpa using this
   clear hL
   go_wp2_with (first
    | (go_at_call 180;refine CC.mono ?_;rintro e w5 ⟨vo,vc,rfl,ha5,hk5⟩;obtain ⟨⟨old5,q1,q2⟩,q3⟩:=FIN.out w5 vo vc hk5 ha5.out))
   exact ⟨⟨k+1,by omega,by go_num,q3⟩,by simp [intOf];omega⟩
  ·obtain rfl:k=A:=by omega
   clear CAT PC
   have KPH:Hid (∀ ww,Same0 wr ww→Calls Tryz.prog 181 #[.slice (some ⟨pb,poff,none⟩) P.length pc,.int .i64 (c:Int),.slice (some ⟨g,0,none⟩) k k] ww fun e w' => ∃ vo vc,e=.returned (.slice vo (kidP L P c s).length vc)∧Hid (PsAt w' vo (kidP L P c s)∧(vo=none→vc=0)∧(kidP L P c s).length≤vc)∧Same0 ww w'):=fun ww hk=>(kid_paths (HH.out ww (kr.trans' hk)) HA.out.symm hA6 (hL.out.same hk)).mono (fun e w' ⟨vo,vc,q1,q2,q3,q4,q5⟩=>⟨vo,vc,q1,⟨q2,q3,q4⟩,q5⟩)
   clear hL
   go_upto_region 8 with fail
   go_cut [13] from 46 to 53 (fun s13 wc=>KidCut W1 bs (kidP L P c s) wr s13 wc)
   case first=>
    have FA:Hid (∀ w8 vo vc,Same0 wr.drew w8→PsAt w8 vo (kidP L P c s)∧(vo=none→vc=0)∧(kidP L P c s).length≤vc→KidCut W1 bs (kidP L P c s) wr (.pointer (some ⟨w8.heap.size,0,none⟩)) (w8.alloc (.cells #[.pointer (some ⟨bs,0,none⟩),.slice vo (kidP L P c s).length vc,.slice none 0 0] 181))):=fun w8 vo vc h2 q=>kidcut_a kr (Same0.trans' ((Kept.refl _ wr).drew) h2) q.1 q.2.1 q.2.2
    have FB:Hid (∀ w8 vo vc,Same0 (wr.alloc zeroNd).drew w8→PsAt w8 vo (kidP L P c s)∧(vo=none→vc=0)∧(kidP L P c s).length≤vc→KidCut W1 bs (kidP L P c s) wr (.pointer (some ⟨wr.heap.size,0,none⟩)) (((w8.setCell ⟨wr.heap.size,0,none⟩ (.pointer (some ⟨bs,0,none⟩))).setCell ⟨wr.heap.size,1,none⟩ (.slice vo (kidP L P c s).length vc)).setCell ⟨wr.heap.size,2,none⟩ (.slice none 0 0))):=fun w8 vo vc h2 q=>kidcut_b kr h2 q.1 q.2.1 q.2.2
    have d0:wr.drew.cell? ⟨w.heap.size,0,none⟩=some (.pointer (some ⟨bs,0,none⟩)):=b0
    have d1:wr.drew.cell? ⟨w.heap.size,1,none⟩=some (.slice (some ⟨pb,poff,none⟩) P.length pc):=b1
    have WA:Same0 wr wr.drew:=(Kept.refl _ wr).drew
    have WB:Same0 wr (wr.alloc zeroNd).drew:=((Kept.refl _ wr).alloc _).drew
    have BY:Hid (∀ ww,Same0 wr ww→ww.cell? ⟨w.heap.size,0,none⟩=some (.pointer (some ⟨bs,0,none⟩))∧ww.cell? ⟨w.heap.size,1,none⟩=some (.slice (some ⟨pb,poff,none⟩) P.length pc)):=fun ww hk=>BX.out ww (kr.trans' hk)
    obtain ⟨g0,g1⟩:=BY.out _ WB
    have ZB:Hid (∀ w8,Same0 (wr.alloc zeroNd).drew w8→(w8.cell? ⟨wr.heap.size,0,none⟩=some (.pointer none)∧w8.cell? ⟨wr.heap.size,1,none⟩=some (.slice none 0 0)∧w8.cell? ⟨wr.heap.size,2,none⟩=some (.slice none 0 0))∧w8.frozen? ⟨wr.heap.size,0,none⟩=false∧w8.frozen? ⟨wr.heap.size,1,none⟩=false∧w8.frozen? ⟨wr.heap.size,2,none⟩=false):=fun w8 h8=>by
     have hb:w8.heap[wr.heap.size]? = some (.cells #[.pointer none,.slice none 0 0,.slice none 0 0] 181 (0,0)):=h8.at0 (heap_alloc_new wr _)
     exact ⟨⟨cellAt hb 0,cellAt hb 1,cellAt hb 2⟩,frozenAt hb 0,frozenAt hb 1,frozenAt hb 2⟩
    clear KW k3 HH BX RS
    generalize (kidP L P c s)=KPL at *
    have SB:Hid (∀ w8 x0 x1 x2,Same0 wr w8→Same0 wr (((w8.setCell ⟨wr.heap.size,0,none⟩ x0).setCell ⟨wr.heap.size,1,none⟩ x1).setCell ⟨wr.heap.size,2,none⟩ x2)):=fun w8 x0 x1 x2 h8=>((h8.own (Nat.le_refl _) x0).own (Nat.le_refl _) x1).own (Nat.le_refl _) x2
    have CC0:=And.intro b0 b1
    go_region_held3 (fun w' => w'.cell? ⟨w.heap.size,0,none⟩=some (.pointer (some ⟨bs,0,none⟩))∧w'.cell? ⟨w.heap.size,1,none⟩=some (.slice (some ⟨pb,poff,none⟩) P.length pc)) (first | exact CC0 | exact BY.out _ (by first | assumption | exact Kept.alloc (by assumption) _ | exact SB.out _ _ _ _ k8 | exact Kept.alloc (Kept.refl _ _) _ | exact Kept.drew (Kept.alloc (Kept.refl _ _) _) | exact Kept.alloc (Kept.drew (Kept.refl _ _)) _)) (first
     | (go_at_call 181;refine (KPH.out _ WA).mono ?_;rintro e w8 ⟨vo,vc,rfl,z1,z4⟩;have k8:=WA.trans' z4;obtain ⟨e0,e1⟩:=BY.out w8 k8;have KC:=FA.out w8 vo vc z4 z1.out)
     | (go_at_call 181;refine (KPH.out _ WB).mono ?_;rintro e w8 ⟨vo,vc,rfl,z1,z4⟩;have k8:=WB.trans' z4;obtain ⟨e0,e1⟩:=BY.out w8 k8;obtain ⟨⟨y0,y1,y2⟩,y3,y4,y5⟩:=ZB.out w8 z4;have KC:=FB.out w8 vo vc z4 z1.out))
    all_goals
     go_wp2_with fail
     go_meet
     exact KC
   case rest=>
    obtain ⟨kb,vo,vc,rfl,hkb,hN0,hps,hvn,hvc,k8⟩:=hcut
    obtain ⟨we,rfl⟩:∃ we,we=wc:=⟨_,rfl⟩
    have K8:Same0 W1 we:=kr.trans' k8
    have HPS:Hid (PsAt we vo (kidP L P c s)):=hps
    have HVN:Hid ((vo=none→vc=0)∧(kidP L P c s).length≤vc):=⟨hvn,hvc⟩
    have hkbl:kb<we.heap.size:=lt_of_at hN0
    generalize hkp:kidP L P c s=KPL at *
    have HKP:Hid (kidP L P c s=KPL):=hkp
    have HN0:Hid (we.heap[kb]? = some (.cells #[.pointer (some ⟨bs,0,none⟩),.slice vo KPL.length vc,.slice none 0 0] 181 (0,0))):=hN0
    clear KPH b0 b1 hps hvn hvc kr k8 hkp k3 hk2 hgW hN0
    go_wp2_with fail
    go_loopw [56] (fun i wr=>∃ (k:Nat) (lv:Value) (us:List Value),k≤H.length∧i=.int .i64 (k:Int)∧Hid (wr.heap[kb]? = some (.cells #[.pointer (some ⟨bs,0,none⟩),.slice vo KPL.length vc,lv] 181 (0,0)))∧Hid (wr.ownsRow we.heap.size 246 3 lv k us)∧Hid (WCells wr us ((H.take k).map (kidX L c)))∧Same0 W1 wr∧Kept (fun q=>q=kb) we wr) (fun i _=>H.length-(intOf i).toNat)
    case atStart=>exact ⟨0,.slice none 0 0,[],Nat.zero_le _,rfl,HN0,World.ownsRow_nil _ _ _ _,by simpa [Hid] using WCells.nil _,K8,Kept.refl _ _⟩
    case round=>
     obtain ⟨j,lv,us,hj,rfl,hN,hr,hus,hw,hwe⟩:=hrel
     obtain ⟨lo,lc,rfl⟩:=row_shape hr.out
     obtain ⟨b0,b1⟩:=BX.out wr hw
     by_cases hlt:j<H.length
     ·have HI:=HH.out wr hw
      obtain ⟨hb,hoff,rfl,hhb,xo,xc,yo,yc,r0,r1,r2,A1,A2⟩:=HI.hs.get hlt
      obtain ⟨ok1,ok2,ok3,ok4⟩:=HI.ok _ (List.getElem_mem hlt)
      have hc2:c<H[j].2.2.length:=by omega
      have hp2:=ok3 _ (List.getElem_mem hc2)
      have hT:=checkE_zero.1 ok1
      have i1:(0:Int)≤(j:Int):=by omega
      have i2:(j:Int)<(H.length:Int):=by omega
      have i3:(0:Int)≤(c:Int):=by omega
      have i4:(c:Int)<(H[j].2.2.length:Int):=by omega
      obtain ⟨WB,hWB⟩:∃ WB,WB=wr.alloc (.cells #[.int .i64 H[j].1,.slice xo H[j].2.1.length xc,.slice yo H[j].2.2.length yc] 246):=⟨_,rfl⟩
      have kB:Same0 wr WB:=by rw [hWB];exact (Kept.refl _ _).alloc _
      obtain ⟨pb2,poff2,rfl,hpb2,hpc2⟩:=A2.1.at'.get (i:=c) (by rw [ofN_len];exact hc2)
      have e2:(ofN H[j].2.2)[c]'(by rw [ofN_len];exact hc2)=((H[j].2.2[c]:Nat):Int):=by simp [ofN]
      rw [e2] at hpc2
      have hpE:placeE L H[j].2.1 ((H[j].2.2[c]:Nat):Int)=0:=by unfold placeE;rw [if_neg (by simp [ok1]),if_neg (by omega)]
      have CAR:Hid (∀ m,Calls Tryz.prog 182 #[.pointer (some ⟨bs,0,none⟩),.slice xo H[j].2.1.length xc,.int .i64 ((H[j].2.2[c]:Nat):Int)] (WB.drewN m) fun e w' => ∃ qo qc,e=.returned (.tuple #[.slice qo (argsN L H[j].2.1 H[j].2.2[c]).length qc,.int .i64 0])∧Hid (ArgT w' qo (ofN (argsN L H[j].2.1 H[j].2.2[c])) qc)∧Same0 WB w'):=fun m=>by
       have km:Same0 WB (WB.drewN m):=(Kept.refl _ _).drewN m
       refine (args_any (cap:=xc) (HH.out _ ((hw.trans' kB).trans' km)).sig ((A1.same kB).same km).1.at' (by unfold maxLen;omega) _).mono ?_
       rintro e w' ⟨v,rfl,hrow,hk'⟩
       rw [argsA,if_pos hpE] at hrow
       simp only [Int.toNat_natCast] at hrow
       have hlen:(argsN L H[j].2.1 H[j].2.2[c]).length≤6:=by rw [argsN_eq hp2,starts_length];exact arN_le HI.sig.2 _
       obtain ⟨qo,qc,rfl,a1,_⟩:=hrow.arg (by rw [ofN_len];omega)
       exact ⟨qo,qc,by rw [hpE,ofN_len],a1,km.trans' hk'⟩
      have kbT:∀ ww,Same0 wr ww→ww.heap[kb]? = some (.cells #[.pointer (some ⟨bs,0,none⟩),.slice vo KPL.length vc,.slice lo j lc] 181 (0,0)):=fun ww hk=>hk.at0 hN.out
      have CELLS:Hid (∀ ww,Same0 WB ww→(ww.cell? ⟨kb,2,none⟩=some (.slice lo j lc)∧ww.cell? ⟨w.heap.size,0,none⟩=some (.pointer (some ⟨bs,0,none⟩)))∧ww.cell? ⟨wr.heap.size,0,none⟩=some (.int .i64 H[j].1)∧ww.cell? ⟨wr.heap.size,1,none⟩=some (.slice xo H[j].2.1.length xc)∧ww.cell? ⟨wr.heap.size,2,none⟩=some (.slice (some ⟨pb2,poff2,none⟩) H[j].2.2.length yc)∧ww.cell? ⟨pb2,poff2+c,none⟩=some (.int .i64 ((H[j].2.2[c]:Nat):Int))):=fun ww hk=>by
       have hbx:WB.heap[wr.heap.size]? = some (.cells #[.int .i64 H[j].1,.slice xo H[j].2.1.length xc,.slice (some ⟨pb2,poff2,none⟩) H[j].2.2.length yc] 246 (0,0)):=by rw [hWB];exact heap_alloc_new _ _
       exact ⟨⟨cellAt (kbT ww (kB.trans' hk)) 2,(BX.out ww ((hw.trans' kB).trans' hk)).1⟩,cellAt (hk.at0 hbx) 0,cellAt (hk.at0 hbx) 1,cellAt (hk.at0 hbx) 2,((kB.trans' hk).cell (p:=⟨pb2,poff2+c,none⟩) hpb2 (fun f=>f)).trans hpc2⟩
      have CR:Hid (∀ (ww:World) qo qc,Same0 WB ww→ArgT ww qo (ofN (argsN L H[j].2.1 H[j].2.2[c])) qc→Calls Tryz.prog 183 #[.slice (some ⟨pb2,poff2,none⟩) H[j].2.2.length yc,.int .i64 (c:Int),.slice qo (argsN L H[j].2.1 H[j].2.2[c]).length qc] ww fun e w' => ∃ zo zc,e=.returned (.slice zo (kidX L c H[j]).2.2.length zc)∧Hid (ArgT w' zo (ofN (kidX L c H[j]).2.2) zc)∧Same0 WB w'):=fun ww qo qc hk ha=>by
       have s0:=((A2.same kB).same hk).1.src
       have s1:=ha.1.src
       rw [ofN_len] at s0 s1
       have hcp:=A2.1.cap'
       rw [ofN_len] at hcp
       have hlen:(argsN L H[j].2.1 H[j].2.2[c]).length≤6:=by rw [argsN_eq hp2,starts_length];exact arN_le HI.sig.2 _
       refine (replaced_nums s0 (Nat.lt_of_lt_of_le hpb2 (kB.trans' hk).size) hcp s1 hc2 (by omega)).mono ?_
       rintro e w' ⟨v,rfl,hrow,hk'⟩
       have hx:(kidX L c H[j]).2.2=H[j].2.2.take c++argsN L H[j].2.1 H[j].2.2[c]++H[j].2.2.drop (c+1):=by
        simp only [kidX,repl];rw [getD_lt hc2]
       have hrow' : Row ww.heap.size w' v (ofN (kidX L c H[j]).2.2):=by
        unfold Row
        rw [ofN_len,hx]
        have e1:(H[j].2.2.take c++argsN L H[j].2.1 H[j].2.2[c]++H[j].2.2.drop (c+1)).length=H[j].2.2.length-1+(argsN L H[j].2.1 H[j].2.2[c]).length:=by simp;omega
        rw [e1]
        have e3:iv (ofN (H[j].2.2.take c++argsN L H[j].2.1 H[j].2.2[c]++H[j].2.2.drop (c+1)))=(iv (ofN H[j].2.2)).take c++iv (ofN (argsN L H[j].2.1 H[j].2.2[c]))++(iv (ofN H[j].2.2)).drop (c+1):=by
         rw [ofN_iv_take,ofN_iv_drop];simp [ofN,iv]
        rw [e3]
        exact hrow
       obtain ⟨zo,zc,rfl,a1,_⟩:=hrow'.arg (by rw [ofN_len,hx];simp;omega)
       exact ⟨zo,zc,by rw [ofN_len],a1,hk.trans' hk'⟩
      have FIN:Hid (∀ w2 zo zc g cap w11,Same0 WB w2→ArgT w2 zo (ofN (kidX L c H[j]).2.2) zc→w11.ownsRow we.heap.size 246 3 (.slice (some ⟨g,0,none⟩) (j+1) cap) (j+1) (us ++ [.int .i64 H[j].1,.slice xo H[j].2.1.length xc,.slice zo (kidX L c H[j]).2.2.length zc])→Kept (fun q=>(Value.slice lo j lc).ownBlock=some q) w2 w11→(w11.cell? ⟨kb,2,none⟩=some (.slice lo j lc)∧w11.frozen? ⟨kb,2,none⟩=false)∧Hid (∃ us', Hid ((w11.setCell ⟨kb,2,none⟩ (.slice (some ⟨g,0,none⟩) (j+1) cap)).heap[kb]? = some (.cells #[.pointer (some ⟨bs,0,none⟩),.slice vo KPL.length vc,.slice (some ⟨g,0,none⟩) (j+1) cap] 181 (0,0)))∧Hid ((w11.setCell ⟨kb,2,none⟩ (.slice (some ⟨g,0,none⟩) (j+1) cap)).ownsRow we.heap.size 246 3 (.slice (some ⟨g,0,none⟩) (j+1) cap) (j+1) us')∧Hid (WCells (w11.setCell ⟨kb,2,none⟩ (.slice (some ⟨g,0,none⟩) (j+1) cap)) us' ((H.take (j+1)).map (kidX L c)))∧Same0 W1 (w11.setCell ⟨kb,2,none⟩ (.slice (some ⟨g,0,none⟩) (j+1) cap))∧Kept (fun q=>q=kb) we (w11.setCell ⟨kb,2,none⟩ (.slice (some ⟨g,0,none⟩) (j+1) cap)))):=by
       intro w2 zo zc g cap w11 k2 a2 r11 k11
       have kr2:Same0 wr w2:=kB.trans' k2
       have hr2:=kr2.row hr.out (fun _ _ f=>f)
       have n2:=kbT w2 kr2
       have nk:¬ (Value.slice lo j lc).ownBlock=some kb:=fun e=>by
        obtain ⟨cu,h5⟩:=own_blk hr2 e
        rw [n2] at h5;cases h5
       have n11:=k11.at n2 nk
       have ks:Kept (fun q=>q=kb) w11 (w11.setCell ⟨kb,2,none⟩ (.slice (some ⟨g,0,none⟩) (j+1) cap)):=Kept.setCell (p:=⟨kb,2,none⟩) (Kept.refl (fun q=>q=kb) w11) (fun _=>rfl) _
       refine ⟨⟨cellAt n11 2,frozenAt n11 2⟩,us ++ [.int .i64 H[j].1,.slice xo H[j].2.1.length xc,.slice zo (kidX L c H[j]).2.2.length zc],setAt n11 2 _,?_,?_,?_,?_⟩
       ·exact ks.row r11 (fun q e f=>by
         obtain ⟨cu,h5⟩:=own_blk r11 e
         subst f
         rw [n11] at h5;cases h5)
       ·show WCells _ _ _
        rw [List.take_add_one,List.getElem?_eq_getElem hlt,List.map_append]
        have:=(hus.out.same kr2).snoc (x:=kidX L c H[j]) (A1.same kr2) a2
        exact (this.kept k11 (row_ty hr2)).kept ks (fun q e cur h5=>by subst e;rw [n11] at h5;cases h5)
       ·refine Kept.trans (Kept.trans (hw.trans' kr2) k11 (fun i hi e=>?_)) ks (fun i hi e=>by omega)
        have:=(hr2.lt i e).1
        have:=K8.size
        omega
       ·refine Kept.trans (Kept.trans (hwe.trans kr2.mono' (fun _ _ e=>e)) k11 (fun i hi e=>?_)) ks (fun _ _ e=>e)
        have:=(hr2.lt i e).1
        omega
      have FS:Hid (∀ w10 w11 v,Same0 WB w10→Kept (fun q=>(Value.slice lo j lc).ownBlock=some q) w10 w11→(w11.cell? ⟨wr.heap.size,0,none⟩=some (.int .i64 H[j].1)∧w11.cell? ⟨wr.heap.size,1,none⟩=some (.slice xo H[j].2.1.length xc)∧w11.cell? ⟨wr.heap.size,2,none⟩=some (.slice (some ⟨pb2,poff2,none⟩) H[j].2.2.length yc))∧(w11.setCell ⟨kb,2,none⟩ v).cell? ⟨wr.heap.size,0,none⟩=some (.int .i64 H[j].1)∧(w11.setCell ⟨kb,2,none⟩ v).cell? ⟨wr.heap.size,1,none⟩=some (.slice xo H[j].2.1.length xc)∧(w11.setCell ⟨kb,2,none⟩ v).cell? ⟨wr.heap.size,2,none⟩=some (.slice (some ⟨pb2,poff2,none⟩) H[j].2.2.length yc)):=by
       intro w10 w11 v k10 k11
       have hbx:WB.heap[wr.heap.size]? = some (.cells #[.int .i64 H[j].1,.slice xo H[j].2.1.length xc,.slice (some ⟨pb2,poff2,none⟩) H[j].2.2.length yc] 246 (0,0)):=by rw [hWB];exact heap_alloc_new _ _
       have b11:=k11.at (k10.at0 hbx) (fun e=>by have:=(hr.out.lt _ e).2;omega)
       have ks:Kept (fun q=>q=kb) w11 (w11.setCell ⟨kb,2,none⟩ v):=Kept.setCell (p:=⟨kb,2,none⟩) (Kept.refl (fun q=>q=kb) w11) (fun _=>rfl) _
       have bs:=ks.at b11 (fun e=>by have:=hwe.size;omega)
       exact ⟨⟨cellAt b11 0,cellAt b11 1,cellAt b11 2⟩,cellAt bs 0,cellAt bs 1,cellAt bs 2⟩
      have HRW:Hid (∀ ww,Same0 WB ww→ww.ownsRow we.heap.size 246 3 (.slice lo j lc) j us):=fun ww hk=>(kB.trans' hk).row hr.out (fun _ _ f=>f)
      have hzw:Hid (we.heap.size≤WB.heap.size):=Nat.le_trans hwe.size kB.size
      have CA9:=CAR.out
      obtain ⟨⟨v0,v1⟩,v2,v3,v4,v5⟩:=CELLS.out WB (Kept.refl _ _)
      have u1:WB.drew.cell? ⟨w.heap.size,0,none⟩=some (.pointer (some ⟨bs,0,none⟩)):=v1
      have u3:WB.drew.cell? ⟨wr.heap.size,1,none⟩=some (.slice xo H[j].2.1.length xc):=v3
      have u4:WB.drew.cell? ⟨wr.heap.size,2,none⟩=some (.slice (some ⟨pb2,poff2,none⟩) H[j].2.2.length yc):=v4
      have u5:WB.drew.cell? ⟨pb2,poff2+c,none⟩=some (.int .i64 ((H[j].2.2[c]:Nat):Int)):=v5
      clear CAR hN hr hus hwe hw A1 A2 ok1 ok2 ok3 ok4 hT hpE kbT hpc2 e2 b0 b1 HI kB
      generalize (kidX L c H[j]).2.2.length=M at *
      generalize (argsN L H[j].2.1 H[j].2.2[c]).length=N at *
      go_upto_region 12 with fail
      rw [← hWB]
      clear hWB r0 r1 r2
      go_cut [16] from 60 to 72 (fun s16 wc=>∃ qo qc,s16=.slice qo N qc∧Hid (ArgT wc qo (ofN (argsN L H[j].2.1 H[j].2.2[c])) qc)∧Same0 WB wc)
      case first=>
       have CC0:=And.intro v1 (And.intro v3 (And.intro v4 v5))
       have KEEP:Hid (∀ ww,Same0 WB ww→ww.cell? ⟨w.heap.size,0,none⟩=some (.pointer (some ⟨bs,0,none⟩))∧ww.cell? ⟨wr.heap.size,1,none⟩=some (.slice xo H[j].2.1.length xc)∧ww.cell? ⟨wr.heap.size,2,none⟩=some (.slice (some ⟨pb2,poff2,none⟩) H[j].2.2.length yc)∧ww.cell? ⟨pb2,poff2+c,none⟩=some (.int .i64 ((H[j].2.2[c]:Nat):Int))):=fun ww hk=>by
        obtain ⟨⟨_,q1⟩,_,q3,q4,q5⟩:=CELLS.out ww hk
        exact ⟨q1,q3,q4,q5⟩
       have CAD:=CA9 1
       clear CA9 FIN HRW CR v0 v2 CELLS
       go_region_held3 (fun w' => w'.cell? ⟨w.heap.size,0,none⟩=some (.pointer (some ⟨bs,0,none⟩))∧w'.cell? ⟨wr.heap.size,1,none⟩=some (.slice xo H[j].2.1.length xc)∧w'.cell? ⟨wr.heap.size,2,none⟩=some (.slice (some ⟨pb2,poff2,none⟩) H[j].2.2.length yc)∧w'.cell? ⟨pb2,poff2+c,none⟩=some (.int .i64 ((H[j].2.2[c]:Nat):Int))) (first | exact CC0 | exact KEEP.out _ k9) (first
        | (go_at_call 182;refine CAD.mono ?_;rintro e w9 ⟨qo,qc,rfl,a9,k9⟩))
       all_goals
        go_wp2_with fail
        go_meet
        exact ⟨_,_,rfl,a9,k9⟩
      case rest=>
      obtain ⟨qo,qc,rfl,a9,k9⟩:=hcut
      obtain ⟨w9,rfl⟩:∃ w9,w9=wc:=⟨_,rfl⟩
      clear CA9
      have CR9:=fun ww (hk:Same0 w9 ww)=>CR.out ww qo qc (k9.trans' hk) (a9.out.same hk)
      have CRH:Hid (∀ ww,Same0 w9 ww→Calls Tryz.prog 183 #[.slice (some ⟨pb2,poff2,none⟩) H[j].2.2.length yc,.int .i64 (c:Int),.slice qo N qc] ww fun e w' => ∃ zo zc,e=.returned (.slice zo M zc)∧Hid (ArgT w' zo (ofN (kidX L c H[j]).2.2) zc)∧Same0 WB w'):=CR9
      obtain ⟨⟨x0,x1⟩,x2,x3,x4,x5⟩:=CELLS.out w9 k9
      have hz9:Hid (∀ ww,Same0 WB ww→we.heap.size≤ww.heap.size):=fun ww hk=>Nat.le_trans hzw.out hk.size
      have WD:Same0 w9 w9.drew:=(Kept.refl _ _).drew
      clear CR9 v0 v1 v2 v3 v4 v5 u1 u3 u4 u5 CR a9 x1 x5
      go_wp2_with fail
      have y0:w9.drew.cell? ⟨kb,2,none⟩=some (.slice lo j lc):=x0
      have CC9:=And.intro x2 (And.intro x3 x4)
      have KE:Hid (∀ ww,Same0 WB ww→ww.cell? ⟨wr.heap.size,0,none⟩=some (.int .i64 H[j].1)∧ww.cell? ⟨wr.heap.size,1,none⟩=some (.slice xo H[j].2.1.length xc)∧ww.cell? ⟨wr.heap.size,2,none⟩=some (.slice (some ⟨pb2,poff2,none⟩) H[j].2.2.length yc)):=fun ww hk=>by
       obtain ⟨_,q2,q3,q4,_⟩:=CELLS.out ww hk
       exact ⟨q2,q3,q4⟩
      refine wp_region_held_drew (S:=(fun w' => w'.cell? ⟨wr.heap.size,0,none⟩=some (.int .i64 H[j].1)∧w'.cell? ⟨wr.heap.size,1,none⟩=some (.slice xo H[j].2.1.length xc)∧w'.cell? ⟨wr.heap.size,2,none⟩=some (.slice (some ⟨pb2,poff2,none⟩) H[j].2.2.length yc))) (by kernel_rfl) CC9 (fun hHeld=>?_)
      refine wpAnyH_take (i:=0) (v:=.pointer (some ⟨kb,2,none⟩)) rfl (by kernel_rfl) (by kernel_rfl) (by kernel_rfl) (fun _ _ _ h=>h) (.inl ⟨rfl,fun w' hS=>by simp [go_sem]⟩) hHeld ?_
      refine wpAnyH_take (i:=2) (v:=.pointer (some ⟨wr.heap.size,0,none⟩)) rfl (by kernel_rfl) (by kernel_rfl) (by kernel_rfl) (fun _ _ _ h=>h) (.inl ⟨rfl,fun w' hS=>by simp [go_sem]⟩) hHeld ?_
      refine wpAnyH_take (i:=3) (v:=.int .i64 H[j].1) rfl (by kernel_rfl) (by kernel_rfl) (by kernel_rfl) (fun _ _ _ h=>h) (.inl ⟨rfl,fun w' hS=>by simp [go_sem,hS.1]⟩) hHeld ?_
      refine wpAnyH_take (i:=4) (v:=.pointer (some ⟨wr.heap.size,1,none⟩)) rfl (by kernel_rfl) (by kernel_rfl) (by kernel_rfl) (fun _ _ _ h=>h) (.inl ⟨rfl,fun w' hS=>by simp [go_sem]⟩) hHeld ?_
      refine wpAnyH_take (i:=5) (v:=.slice xo H[j].2.1.length xc) rfl (by kernel_rfl) (by kernel_rfl) (by kernel_rfl) (fun _ _ _ h=>h) (.inl ⟨rfl,fun w' hS=>by simp [go_sem,hS.2.1]⟩) hHeld ?_
      refine wpAnyH_take (i:=6) (v:=.pointer (some ⟨wr.heap.size,2,none⟩)) rfl (by kernel_rfl) (by kernel_rfl) (by kernel_rfl) (fun _ _ _ h=>h) (.inl ⟨rfl,fun w' hS=>by simp [go_sem]⟩) hHeld ?_
      refine wpAnyH_take (i:=7) (v:=.slice (some ⟨pb2,poff2,none⟩) H[j].2.2.length yc) rfl (by kernel_rfl) (by kernel_rfl) (by kernel_rfl) (fun _ _ _ h=>h) (.inl ⟨rfl,fun w' hS=>by simp [go_sem,hS.2.2]⟩) hHeld ?_
      refine wpAnyH_take (i:=8) (v:=.int .i64 (c:Int)) rfl (by kernel_rfl) (by kernel_rfl) (by kernel_rfl) (fun _ _ _ h=>h) (.inl ⟨rfl,fun w' hS=>by simp [go_sem]⟩) hHeld ?_
      refine wpAnyH_take (i:=9) (v:=.slice qo N qc) rfl (by kernel_rfl) (by kernel_rfl) (by kernel_rfl) (fun _ _ _ h=>h) (.inl ⟨rfl,fun w' hS=>by simp [go_sem]⟩) hHeld ?_
      refine wpAnyH_ready (rs:=[1,10]) (by kernel_rfl) (by simp) ?_
      refine AllReadyH.cons rfl (fun K hK=>?_) (AllReadyH.cons rfl (fun K hK=>?_) AllReadyH.nil)
      ·go_simp
       refine hK.out _ _ hHeld (fun hHeld=>?_)
       clear hK K
       refine wpAnyH_ready (rs:=[10]) (by kernel_rfl) (by simp) ?_
       refine AllReadyH.cons rfl (fun K hK=>?_) AllReadyH.nil
       refine step_callx rfl (CRH.out _ WD) (by simp [go_sem]) ?_
       rintro e w10 ⟨zo,zc,rfl,a10,k10⟩
       refine ⟨_,rfl,?_⟩
       obtain ⟨⟨c0,_⟩,c2,c3,c4,_⟩:=CELLS.out _ k10
       obtain ⟨⟨d0,_⟩,_⟩:=CELLS.out _ (k10.alloc (.cells #[.int .i64 H[j].1,.slice xo H[j].2.1.length xc,.slice zo M zc] 246))
       have hz10:=hz9.out _ k10
       refine hK.out _ _ (KE.out _ k10) (fun hHeld=>?_)
       clear hK K
       refine wpAnyH_take (i:=11) (v:=.agg #[.int .i64 H[j].1,.slice xo H[j].2.1.length xc,.slice zo M zc]) rfl (by kernel_rfl) (by kernel_rfl) (by kernel_rfl) (fun _ _ _ h=>h) (.inl ⟨rfl,fun w' hS=>by simp [go_sem]⟩) hHeld ?_
       refine wpAnyH_ready (rs:=[12]) (by kernel_rfl) (by simp) ?_
       refine AllReadyH.cons rfl (fun K hK=>?_) AllReadyH.nil
       go_simp
       refine hK.out _ _ (KE.out _ (Kept.alloc k10 _)) (fun hHeld=>?_)
       clear hK K
       refine wpAnyH_ready (rs:=[13]) (by kernel_rfl) (by simp) ?_
       refine AllReadyH.cons rfl (fun K hK=>?_) AllReadyH.nil
       refine step_rw (w0:=w10) (by rfl) _ _ (by rfl) we.heap.size j us (.slice lo j lc) (by rfl) ((Kept.refl _ w10).alloc _) (HRW.out _ k10) (.int .i64 H[j].1) (.slice xo H[j].2.1.length xc) (.slice zo M zc) w10.heap.size (by rfl) (heap_alloc_new w10 _) (by rfl) (by rfl) (by rfl) hz10 (by omega) ?_
       intro g cap w11 r11 k11
       obtain ⟨⟨y1,y2⟩,FF⟩:=FIN.out w10 zo zc g cap w11 k10 a10.out r11 k11
       obtain ⟨e11,f11⟩:=FS.out w10 w11 (.slice (some ⟨g,0,none⟩) (j+1) cap) k10 k11
       refine hK.out _ _ e11 (fun hHeld=>?_)
       clear hK K
       refine wpAnyH_take (i:=14) (v:=.pointer (some ⟨kb,2,none⟩)) rfl (by kernel_rfl) (by kernel_rfl) (by kernel_rfl) (fun _ _ _ h=>h) (.inl ⟨rfl,fun w' hS=>by simp [go_sem]⟩) hHeld ?_
       refine wpAnyH_ready (rs:=[15]) (by kernel_rfl) (by simp) ?_
       refine AllReadyH.cons rfl (fun K hK=>?_) AllReadyH.nil
       go_simp
       refine hK.out _ _ f11 (fun hHeld=>?_)
       clear hK K
       refine wpAnyH_done (by kernel_rfl) ?_ _
       go_wp2_with fail
       obtain ⟨us', z1,z2,z3,z4,z5⟩:=FF.out
       exact ⟨⟨j+1,_,us', by omega,by go_num,z1,z2,z3,z4,z5⟩,by simp [intOf];omega⟩
      ·refine step_callx rfl (CRH.out _ WD) (by simp [go_sem]) ?_
       rintro e w10 ⟨zo,zc,rfl,a10,k10⟩
       refine ⟨_,rfl,?_⟩
       obtain ⟨⟨c0,_⟩,c2,c3,c4,_⟩:=CELLS.out _ k10
       obtain ⟨⟨d0,_⟩,_⟩:=CELLS.out _ (k10.alloc (.cells #[.int .i64 H[j].1,.slice xo H[j].2.1.length xc,.slice zo M zc] 246))
       have hz10:=hz9.out _ k10
       refine hK.out _ _ (KE.out _ k10) (fun hHeld=>?_)
       clear hK K
       refine wpAnyH_take (i:=11) (v:=.agg #[.int .i64 H[j].1,.slice xo H[j].2.1.length xc,.slice zo M zc]) rfl (by kernel_rfl) (by kernel_rfl) (by kernel_rfl) (fun _ _ _ h=>h) (.inl ⟨rfl,fun w' hS=>by simp [go_sem]⟩) hHeld ?_
       refine wpAnyH_ready (rs:=[1,12]) (by kernel_rfl) (by simp) ?_
       refine AllReadyH.cons rfl (fun K hK=>?_) (AllReadyH.cons rfl (fun K hK=>?_) AllReadyH.nil)
       ·go_simp
        refine hK.out _ _ hHeld (fun hHeld=>?_)
        clear hK K
        refine wpAnyH_ready (rs:=[12]) (by kernel_rfl) (by simp) ?_
        refine AllReadyH.cons rfl (fun K hK=>?_) AllReadyH.nil
        go_simp
        refine hK.out _ _ (KE.out _ (Kept.alloc k10 _)) (fun hHeld=>?_)
        clear hK K
        refine wpAnyH_ready (rs:=[13]) (by kernel_rfl) (by simp) ?_
        refine AllReadyH.cons rfl (fun K hK=>?_) AllReadyH.nil
        refine step_rw (w0:=w10) (by rfl) _ _ (by rfl) we.heap.size j us (.slice lo j lc) (by rfl) ((Kept.refl _ w10).alloc _) (HRW.out _ k10) (.int .i64 H[j].1) (.slice xo H[j].2.1.length xc) (.slice zo M zc) w10.heap.size (by rfl) (heap_alloc_new w10 _) (by rfl) (by rfl) (by rfl) hz10 (by omega) ?_
        intro g cap w11 r11 k11
        obtain ⟨⟨y1,y2⟩,FF⟩:=FIN.out w10 zo zc g cap w11 k10 a10.out r11 k11
        obtain ⟨e11,f11⟩:=FS.out w10 w11 (.slice (some ⟨g,0,none⟩) (j+1) cap) k10 k11
        refine hK.out _ _ e11 (fun hHeld=>?_)
        clear hK K
        refine wpAnyH_take (i:=14) (v:=.pointer (some ⟨kb,2,none⟩)) rfl (by kernel_rfl) (by kernel_rfl) (by kernel_rfl) (fun _ _ _ h=>h) (.inl ⟨rfl,fun w' hS=>by simp [go_sem]⟩) hHeld ?_
        refine wpAnyH_ready (rs:=[15]) (by kernel_rfl) (by simp) ?_
        refine AllReadyH.cons rfl (fun K hK=>?_) AllReadyH.nil
        go_simp
        refine hK.out _ _ f11 (fun hHeld=>?_)
        clear hK K
        refine wpAnyH_done (by kernel_rfl) ?_ _
        go_wp2_with fail
        obtain ⟨us', z1,z2,z3,z4,z5⟩:=FF.out
        exact ⟨⟨j+1,_,us', by omega,by go_num,z1,z2,z3,z4,z5⟩,by simp [intOf];omega⟩
       ·go_simp
        refine hK.out _ _ (KE.out _ (Kept.alloc k10 _)) (fun hHeld=>?_)
        clear hK K
        refine wpAnyH_ready (rs:=[1]) (by kernel_rfl) (by simp) ?_
        refine AllReadyH.cons rfl (fun K hK=>?_) AllReadyH.nil
        go_simp
        refine hK.out _ _ hHeld (fun hHeld=>?_)
        clear hK K
        refine wpAnyH_ready (rs:=[13]) (by kernel_rfl) (by simp) ?_
        refine AllReadyH.cons rfl (fun K hK=>?_) AllReadyH.nil
        refine step_rw (w0:=w10) (by rfl) _ _ (by rfl) we.heap.size j us (.slice lo j lc) (by rfl) ((Kept.refl _ w10).alloc _) (HRW.out _ k10) (.int .i64 H[j].1) (.slice xo H[j].2.1.length xc) (.slice zo M zc) w10.heap.size (by rfl) (heap_alloc_new w10 _) (by rfl) (by rfl) (by rfl) hz10 (by omega) ?_
        intro g cap w11 r11 k11
        obtain ⟨⟨y1,y2⟩,FF⟩:=FIN.out w10 zo zc g cap w11 k10 a10.out r11 k11
        obtain ⟨e11,f11⟩:=FS.out w10 w11 (.slice (some ⟨g,0,none⟩) (j+1) cap) k10 k11
        refine hK.out _ _ e11 (fun hHeld=>?_)
        clear hK K
        refine wpAnyH_take (i:=14) (v:=.pointer (some ⟨kb,2,none⟩)) rfl (by kernel_rfl) (by kernel_rfl) (by kernel_rfl) (fun _ _ _ h=>h) (.inl ⟨rfl,fun w' hS=>by simp [go_sem]⟩) hHeld ?_
        refine wpAnyH_ready (rs:=[15]) (by kernel_rfl) (by simp) ?_
        refine AllReadyH.cons rfl (fun K hK=>?_) AllReadyH.nil
        go_simp
        refine hK.out _ _ f11 (fun hHeld=>?_)
        clear hK K
        refine wpAnyH_done (by kernel_rfl) ?_ _
        go_wp2_with fail
        obtain ⟨us', z1,z2,z3,z4,z5⟩:=FF.out
        exact ⟨⟨j+1,_,us', by omega,by go_num,z1,z2,z3,z4,z5⟩,by simp [intOf];omega⟩
     ·obtain rfl:j=H.length:=by omega
      have hN' := hN.out
      have rs:=RS.out wr hw
      have n0:=cellAt hN' 0
      have n1:=cellAt hN' 1
      have n2:=cellAt hN' 2
      have q0:=cellAt rs 0
      have q1:=cellAt rs 1
      have q2:=cellAt rs 2
      have f0:=frozenAt rs 0
      have f1:=frozenAt rs 1
      have f2:=frozenAt rs 2
      simp only [List.getElem?_toArray,List.getElem?_cons_zero,List.getElem?_cons_succ] at n0 n1 n2 q0 q1 q2
      have FIN:Hid (KidOut w L bs P c s H (.returned (.agg #[.pointer (some ⟨bs,0,none⟩),.slice vo KPL.length vc,.slice lo H.length lc])) (((wr.setCell ⟨w.heap.size+1,0,none⟩ (.pointer (some ⟨bs,0,none⟩))).setCell ⟨w.heap.size+1,1,none⟩ (.slice vo KPL.length vc)).setCell ⟨w.heap.size+1,2,none⟩ (.slice lo H.length lc))):=by
       have kk:Kept (fun q=>q=w.heap.size+1) wr (((wr.setCell ⟨w.heap.size+1,0,none⟩ (.pointer (some ⟨bs,0,none⟩))).setCell ⟨w.heap.size+1,1,none⟩ (.slice vo KPL.length vc)).setCell ⟨w.heap.size+1,2,none⟩ (.slice lo H.length lc)):=by
        have k1:=Kept.setCell (p:=⟨w.heap.size+1,0,none⟩) (Kept.refl (fun q=>q=w.heap.size+1) wr) (fun _=>rfl) (.pointer (some ⟨bs,0,none⟩))
        have k2:=Kept.setCell (p:=⟨w.heap.size+1,1,none⟩) k1 (fun _=>rfl) (.slice vo KPL.length vc)
        exact Kept.setCell (p:=⟨w.heap.size+1,2,none⟩) k2 (fun _=>rfl) (.slice lo H.length lc)
       have hus' := hus.out
       rw [List.take_length] at hus'
       obtain ⟨ro,rc,e1,r1,r2,_⟩:=row_rows hr.out hus'
       rw [List.length_map] at e1
       have hpsr:=HPS.out.keptN hwe (fun q e=>by subst e;exact ⟨_,HN0.out⟩)
       have nb:∀ q,q=w.heap.size+1→NdB wr q:=fun q e=>by subst e;exact ⟨_,rs⟩
       refine ⟨vo,vc,ro,rc,by rw [HKP.out,← e1],?_,HVN.out.1,?_,r1.keptN kk nb,r2,Kept.trans (KW.trans' hw) kk (fun i hi e=>by omega)⟩
       ·rw [HKP.out];exact hpsr.keptN kk nb
       ·rw [HKP.out];exact HVN.out.2
      have s3:=setAt (setAt (setAt rs 0 (.pointer (some ⟨bs,0,none⟩))) 1 (.slice vo KPL.length vc)) 2 (.slice lo H.length lc)
      have GG:Hid ((((wr.setCell ⟨w.heap.size+1,0,none⟩ (.pointer (some ⟨bs,0,none⟩))).setCell ⟨w.heap.size+1,1,none⟩ (.slice vo KPL.length vc)).setCell ⟨w.heap.size+1,2,none⟩ (.slice lo H.length lc)).cell? ⟨w.heap.size+1,0,none⟩=some (.pointer (some ⟨bs,0,none⟩))∧(((wr.setCell ⟨w.heap.size+1,0,none⟩ (.pointer (some ⟨bs,0,none⟩))).setCell ⟨w.heap.size+1,1,none⟩ (.slice vo KPL.length vc)).setCell ⟨w.heap.size+1,2,none⟩ (.slice lo H.length lc)).cell? ⟨w.heap.size+1,1,none⟩=some (.slice vo KPL.length vc)∧(((wr.setCell ⟨w.heap.size+1,0,none⟩ (.pointer (some ⟨bs,0,none⟩))).setCell ⟨w.heap.size+1,1,none⟩ (.slice vo KPL.length vc)).setCell ⟨w.heap.size+1,2,none⟩ (.slice lo H.length lc)).cell? ⟨w.heap.size+1,2,none⟩=some (.slice lo H.length lc)):=⟨cellAt s3 0,cellAt s3 1,cellAt s3 2⟩
      clear hN hr hus hN' rs hwe s3
      go_wp2
      obtain ⟨g0,g1,g2⟩:=GG.out
      exact bodyPost_ret (v:=.agg #[.pointer (some ⟨bs,0,none⟩),.slice vo KPL.length vc,.slice lo H.length lc]) (by simp [results,Tryz.results131,go_sem,g0,g1,g2]) rfl FIN.out
end Go.Proofs.YtmjgnfkbnofjoaaGreatDoor
namespace Go.Proofs.YtmjgnfkbnofjoaaGreatDoor
set_option maxRecDepth 100000
set_option linter.unusedVariables false
open Go.RowKit
def CsB (B:Nat→Prop) (w:World):(n:Nat)→Value→Tr n→Prop
 | 0,_,_=>False
 | n+1,v,(k,r,p,l)=>∃ po pc ko kc,v=.agg #[.int .i64 k,.int .i64 r,.slice po p.length pc,.slice ko l.length kc]∧Arg w po p pc∧(p=[]∨∀ a,po=some a→B a.block)∧(ko=none→kc=0)∧l.length≤kc ∧
   (l=[]∨∃ b off,ko=some ⟨b,off,none⟩∧B b∧b<w.heap.size∧∀ i (h:i<l.length),∃ c0 c1 c2 c3,w.cell? ⟨b,off+i * 5,none⟩=some (.int .i64 l[i].1)∧w.cell? ⟨b,off+i * 5+1,none⟩=some c0∧w.cell? ⟨b,off+i * 5+2,none⟩=some c1∧w.cell? ⟨b,off+i * 5+3,none⟩=some c2∧w.cell? ⟨b,off+i * 5+4,none⟩=some c3∧CsB B w n (.agg #[c0,c1,c2,c3]) l[i].2)
theorem IntsAt.keptE {w w' : World} {S:Nat→Prop} {ao:Option Addr} {xs:List Int} (h:IntsAt w ao xs) (hk:Kept S w w') (hs:xs=[]∨∀ a,ao=some a→¬ S a.block):IntsAt w' ao xs:=by
 rcases hs with rfl | hs
 ·exact .inl rfl
 ·exact h.kept hk hs
theorem CsB.kept {B S:Nat→Prop} {w w' : World} (hk:Kept S w w') (hS:∀ b,B b→¬ S b):∀ {n:Nat} {v:Value} {t:Tr n},CsB B w n v t→CsB B w' n v t
 | 0,_,_,h=>h
 | n+1,v,(k,r,p,l),h=>by
  obtain ⟨po,pc,ko,kc,h1,h2,h3,h4,h5,h6⟩:=h
  refine ⟨po,pc,ko,kc,h1,⟨h2.at'.keptE hk (h3.imp id (fun q a e=>hS _ (q a e))),h2.cap', h2.nil,h2.size⟩,h3,h4,h5,h6.imp id ?_⟩
  rintro ⟨b,off,e,hb,hl,hc⟩
  refine ⟨b,off,e,hb,Nat.lt_of_lt_of_le hl hk.size,fun i hi=>?_⟩
  have nb:=hS b hb
  obtain ⟨c0,c1,c2,c3,q0,q1,q2,q3,q4,q5⟩:=hc i hi
  exact ⟨c0,c1,c2,c3,(hk.cell (p:=⟨b,off+i * 5,none⟩) hl nb).trans q0,(hk.cell (p:=⟨b,off+i * 5+1,none⟩) hl nb).trans q1,(hk.cell (p:=⟨b,off+i * 5+2,none⟩) hl nb).trans q2,(hk.cell (p:=⟨b,off+i * 5+3,none⟩) hl nb).trans q3,(hk.cell (p:=⟨b,off+i * 5+4,none⟩) hl nb).trans q4,CsB.kept hk hS q5⟩
theorem CsB.same {B:Nat→Prop} {w w' : World} {n:Nat} {v:Value} {t:Tr n} (h:CsB B w n v t) (hk:Same0 w w'):CsB B w' n v t:=CsB.kept hk (fun _ _ f=>f) h
theorem CsB.mono {B B' : Nat→Prop} {w:World} (hB:∀ b,b<w.heap.size→B b→B' b):∀ {n:Nat} {v:Value} {t:Tr n},CsB B w n v t→CsB B' w n v t
 | 0,_,_,h=>h
 | n+1,v,(k,r,p,l),h=>by
  obtain ⟨po,pc,ko,kc,h1,h2,h3,h4,h5,h6⟩:=h
  refine ⟨po,pc,ko,kc,h1,h2,?_,h4,h5,h6.imp id ?_⟩
  ·rcases h2.at' with q | ⟨b,off,e,hb,_⟩
   ·exact .inl q
   ·refine h3.imp id (fun q a ea=>?_)
    rw [e] at ea
    cases ea
    exact hB _ hb (q _ e)
  ·rintro ⟨b,off,e,hb,hl,hc⟩
   refine ⟨b,off,e,hB b hl hb,hl,fun i hi=>?_⟩
   obtain ⟨c0,c1,c2,c3,q0,q1,q2,q3,q4,q5⟩:=hc i hi
   exact ⟨c0,c1,c2,c3,q0,q1,q2,q3,q4,CsB.mono hB q5⟩
theorem CsB.shape {B:Nat→Prop} {w:World}:∀ {n:Nat} {v:Value} {t:Tr n},CsB B w n v t→∃ k r po pl pc ko kl kc,v=.agg #[.int .i64 k,.int .i64 r,.slice po pl pc,.slice ko kl kc]
 | 0,_,_,h=>h.elim
 | n+1,v,(k,r,p,l),h=>by
  obtain ⟨po,pc,ko,kc,h1,_⟩:=h
  exact ⟨_,_,_,_,_,_,_,_,h1⟩
theorem info_kid:(Tryz.prog.info? 161).map (fun i=>(i.zero,i.size,i.bytes))=some (some (.agg #[.int .i64 0,.int .i64 0,.int .i64 0,.slice none 0 0,.slice none 0 0]),5,72):=by kernel_rfl
def KCells (B:Nat→Prop) (w:World) (n:Nat) (us:List Value) (l:List (Int × Tr n)):Prop:=
 us.length=l.length * 5∧∀ i (h:i<l.length),∃ c0 c1 c2 c3,us[i * 5]? = some (.int .i64 l[i].1)∧us[i * 5+1]? = some c0∧us[i * 5+2]? = some c1∧us[i * 5+3]? = some c2∧us[i * 5+4]? = some c3∧CsB B w n (.agg #[c0,c1,c2,c3]) l[i].2
theorem KCells.nil (B:Nat→Prop) (w:World) (n:Nat):KCells B w n [] []:=⟨rfl,fun i h=>absurd h (by simp)⟩
theorem KCells.kept {B S:Nat→Prop} {w w' : World} {n:Nat} {us:List Value} {l:List (Int × Tr n)} (h:KCells B w n us l) (hk:Kept S w w') (hS:∀ b,B b→¬ S b):KCells B w' n us l:=
 ⟨h.1,fun i hi=>by
  obtain ⟨c0,c1,c2,c3,q0,q1,q2,q3,q4,q5⟩:=h.2 i hi
  exact ⟨c0,c1,c2,c3,q0,q1,q2,q3,q4,CsB.kept hk hS q5⟩⟩
theorem KCells.mono {B B' : Nat→Prop} {w:World} {n:Nat} {us:List Value} {l:List (Int × Tr n)} (h:KCells B w n us l) (hB:∀ b,b<w.heap.size→B b→B' b):KCells B' w n us l:=
 ⟨h.1,fun i hi=>by
  obtain ⟨c0,c1,c2,c3,q0,q1,q2,q3,q4,q5⟩:=h.2 i hi
  exact ⟨c0,c1,c2,c3,q0,q1,q2,q3,q4,CsB.mono hB q5⟩⟩
theorem KCells.snoc {B:Nat→Prop} {w:World} {n:Nat} {us:List Value} {l:List (Int × Tr n)} (h:KCells B w n us l) {s:Int} {t:Tr n} {c0 c1 c2 c3:Value} (ht:CsB B w n (.agg #[c0,c1,c2,c3]) t):KCells B w n (us ++ [.int .i64 s,c0,c1,c2,c3]) (l ++ [(s,t)]):=by
 refine ⟨by simp [h.1];omega,fun i hi=>?_⟩
 by_cases hl:i<l.length
 ·rw [List.getElem_append_left hl,List.getElem?_append_left (by rw [h.1];omega),List.getElem?_append_left (by rw [h.1];omega),List.getElem?_append_left (by rw [h.1];omega),List.getElem?_append_left (by rw [h.1];omega),List.getElem?_append_left (by rw [h.1];omega)]
  exact h.2 i hl
 ·obtain rfl:i=l.length:=by simp at hi;omega
  refine ⟨c0,c1,c2,c3,?_,?_,?_,?_,?_,by simpa using ht⟩ <;> (rw [List.getElem?_append_right (by rw [h.1];omega),h.1];simp [Nat.add_sub_cancel_left])
theorem branch_cs {B:Nat→Prop} {w:World} {n:Nat} {lv:Value} {us:List Value} {l:List (Int × Tr n)} {base:Nat} (hr:w.ownsRow base 161 5 lv l.length us) (hu:KCells B w n us l) (hB:∀ b,lv.ownBlock=some b→B b) {po:Option Addr} {pc:Nat} {p:List Int} (hp:Arg w po p pc) (hpB:∀ a,po=some a→B a.block) (k r:Int) :
  CsB B w (n+1) (.agg #[.int .i64 k,.int .i64 r,.slice po p.length pc,lv]) (k,r,p,l):=by
 rcases hr.2 with ⟨rfl,h0⟩ | ⟨g,cap,cur,rfl,_,hg,hle,_,_,ht⟩
 ·have e0:l=[]:=List.eq_nil_of_length_eq_zero h0
  subst e0
  exact ⟨po,pc,none,0,rfl,hp,.inr hpB,fun _=>rfl,Nat.le_refl _,.inl rfl⟩
 ·refine ⟨po,pc,_,cap,rfl,hp,.inr hpB,(fun e=>by cases e),hle,.inr ⟨g,0,rfl,hB g rfl,lt_of_at hg,fun i hi=>?_⟩⟩
  obtain ⟨c0,c1,c2,c3,q0,q1,q2,q3,q4,q5⟩:=hu.2 i hi
  have a0:=hr.cells (g:=g) rfl _ _ q0
  have a1:=hr.cells (g:=g) rfl _ _ q1
  have a2:=hr.cells (g:=g) rfl _ _ q2
  have a3:=hr.cells (g:=g) rfl _ _ q3
  have a4:=hr.cells (g:=g) rfl _ _ q4
  rw [addr_add] at a0 a1 a2 a3 a4
  exact ⟨c0,c1,c2,c3,a0,by rw [← a1];congr 2,by rw [← a2];congr 2,by rw [← a3];congr 2,by rw [← a4];congr 2,q5⟩
theorem step_kid {w0 W:World} {ops:Array Oper} {o:Oper} {a:Act} {K:Act→World→Prop} {Q:Exit→Act→World→Prop} {E:Prop} (hgd:o.guard=none) (s x:Operand)
  (ho:o.op=.call { callee:=.builtin .append,args:=#[s,x],argTypes:=#[61,61] })
  (base N:Nat) (vs:List Value) (v:Value) (hs:a.eval s=v) (hW:Same0 w0 W) (hr:w0.ownsRow base 161 5 v N vs) (A C D F G:Value) (q:Nat) (hx:a.eval x=.slice (some ⟨q,0,none⟩) 1 1) (hq:W.heap[q]? = some (.cells #[A,C,D,F,G] 161 (0,0))) (hA:A.oneCell' = true) (hC:C.oneCell' = true) (hD:D.oneCell' = true) (hF:F.oneCell' = true) (hG:G.oneCell' = true) (hb:base≤w0.heap.size) (hsz:N≤1000)
  (h:∀ g cap w', w'.ownsRow base 161 5 (.slice (some ⟨g,0,none⟩) (N+1) cap) (N+1) (vs ++ [A,C,D,F,G])→Kept (fun k=>v.ownBlock=some k) w0 w' → (v.ownBlock=some g∨w0.heap.size≤g)→K (a.put o.dst (.slice (some ⟨g,0,none⟩) (N+1) cap)) w') :
  if Region.wanted o (yielded ops a.tmps)=true then Oper.wp Tryz.prog o a W K Q else E:=by
 obtain ⟨i,hi,hz0,hz1,hz2⟩:=info_parts info_kid
 refine step_append_lies _ hgd s x 61 ho base 161 i _ 5 72 Tryz.underlying61 hi hz0 hz1 hz2 rfl (by decide) v N vs hs (hW.row hr (fun _ _ f=>f)) ⟨q,0,none⟩ 1 1 [A,C,D,F,G] hx rfl (World.news_of_block (cs:=#[A,C,D,F,G]) (t:=161) (fr:=(0,0)) hq) (by intro u hu;simp at hu;rcases hu with rfl | rfl | rfl | rfl | rfl <;> assumption) (by omega) (by unfold maxLen;omega) (by omega) (Nat.le_trans hb hW.size) W.heap.size rfl ?_
 intro g cap w' hown hgrow hat hlt
 exact h g cap w' hown (Kept.grown (Kept.mono hW (fun _ _ f=>f.elim)) hgrow (fun _ e _=>e)) (hat.imp id (fun e=>by have:=hW.size;omega))
theorem step_callp {ops:Array Oper} {o:Oper} {a:Act} {w:World} {K:Act→World→Prop} {Q:Exit→Act→World→Prop} {E:Prop} {f:FuncId} {args:Array Value} {R:Ending→World→Prop} (hgd:o.guard=none)
  (c:Calls Tryz.prog f args w R) (hrun:(execOp a.eval o).run Tryz.prog w=.ok (.enter f args) w) (hR:∀ e w', R e w' → ∃ ch,e=.panicked ch∧Q (.panic ch) a w') :
  if Region.wanted o (yielded ops a.tmps)=true then Oper.wp Tryz.prog o a w K Q else E:=by
 have hw:Region.wanted o (yielded ops a.tmps)=true:=by simp [Region.wanted,hgd]
 rw [if_pos hw]
 unfold Oper.wp
 rw [hrun,Oper.upon_enter]
 refine c.mono fun e w' h=>?_
 obtain ⟨ch,rfl,h2⟩:=hR e w' h
 exact h2
def FkAt (w:World) (e:Ending) (z:Int):Prop:=
 ∃ b,e=.panicked [{ v:=.iface 114 (.pointer (some ⟨b,0,none⟩)),recovered:=false }]∧w.heap[b]? = some (.cells #[.int .i64 82,.int .i64 z,.nilIface] 116 (0,0))
structure NdIn (w:World) (L:List Sym) (n bs:Nat) (po:Option Addr) (pc:Nat) (P:List (List Int)) (ro:Option Addr) (R:List Rw):Prop where
 sig:Sg w.heap.size w bs L
 ps:PsAt w po P
 nul:po=none→pc=0
 cap:P.length≤pc
 rs:RwAt w ro R
 ok:NdOk L n P R
theorem NdIn.same {w w' : World} {L:List Sym} {n bs:Nat} {po:Option Addr} {pc:Nat} {P:List (List Int)} {ro:Option Addr} {R:List Rw} (h:NdIn w L n bs po pc P ro R) (hk:Same0 w w'):NdIn w' L n bs po pc P ro R:=
 ⟨sg_up (h.sig.same hk) hk.size,h.ps.same hk,h.nul,h.cap,h.rs.same hk,h.ok⟩
theorem NdOk.rows {L:List Sym} {n:Nat} {P:List (List Int)} {R:List Rw} (h:NdOk L n P R):RowsOk P.length R:=fun x hx=>⟨(h.ok x hx).2.1,(h.ok x hx).2.2.1⟩
def TreeOut {n:Nat} (w:World) (r:Except Int (Tr n)) (e:Ending) (w' : World):Prop:=
 match r with
 | .ok t=>∃ v,e=.returned v∧CsB (fun b=>w.heap.size≤b) w' n v t∧Same0 w w'
 | .error z=>FkAt w' e z∧Same0 w w'
def GrowIH (L:List Sym) (n:Nat):Prop:=∀ (w:World) (bs:Nat) (po:Option Addr) (pc:Nat) (P:List (List Int)) (ro:Option Addr) (rc:Nat) (R:List Rw),NdIn w L n bs po pc P ro R→Calls Tryz.prog 92 #[.agg #[.pointer (some ⟨bs,0,none⟩),.slice po P.length pc,.slice ro R.length rc]] w (TreeOut w (growF L n P R))
theorem NdIn.toKid {w:World} {L:List Sym} {n bs:Nat} {po:Option Addr} {pc:Nat} {P:List (List Int)} {ro:Option Addr} {R:List Rw} (h:NdIn w L (n+1) bs po pc P ro R) {c s:Nat} (hc:c<P.length) (hs:s<L.length) {ho:Option Addr} (hh:RwAt w ho (havR R c (s:Int))):KidIn w L bs po pc P c s ho (havR R c (s:Int)):=
 ⟨h.sig,h.ps,h.nul,h.cap,hc,hs,hh,Nat.le_trans (havR_len R c s) h.ok.le,h.ok.few,fun p hp=>by have:=h.ok.len p hp;omega,fun x hx=>by
  obtain ⟨h1,h2⟩:=havR_mem hx
  obtain ⟨a,b,c,_⟩:=h.ok.ok x h1
  exact ⟨a,b,c,h2⟩⟩
end Go.Proofs.YtmjgnfkbnofjoaaGreatDoor
namespace Go.Proofs.YtmjgnfkbnofjoaaGreatDoor
set_option maxRecDepth 100000
set_option linter.unusedVariables false
open Go.RowKit
attribute [local go_sem ↓] Go.wp_at_zero Go.wp_at_succ
def rulesF:(n:Nat)→Tr n→List Int
 | 0,_=>[]
 | n+1,(k,r,p,l)=>if k=1 then [r] else if k=2 then l.flatMap (fun x=>rulesF n x.2) else []
def SmK:(n:Nat)→Tr n→Prop
 | 0,_=>True
 | n+1,(k,r,p,l)=>l.length≤1000000000∧∀ i (h:i<l.length),SmK n l[i].2
structure RAt (w:World) (lb base:Nat) (lv:Value) (out:List Int):Prop where
 blk:w.heap[lb]? = some (.cells #[lv] 51 (0,0))
 row:Row base w lv out
abbrev T3:=Nat × Nat × Nat
def add3 (a b:T3):T3:=(a.1+b.1,a.2.1+b.2.1,a.2.2+b.2.2)
def sum3 {α:Type} (f:α→T3):List α→T3
 | []=>(0,0,0)
 | x :: r=>add3 (f x) (sum3 f r)
theorem sum3_append {α:Type} (f:α→T3):∀ (a b:List α),sum3 f (a++b)=add3 (sum3 f a) (sum3 f b)
 | [],b=>by simp [sum3,add3]
 | x :: r,b=>by
  rw [List.cons_append,sum3,sum3,sum3_append f r b]
  simp only [add3,Nat.add_assoc]
def kind3 (k:Int):T3:=if k=1 then (1,0,0) else if k=2 then (0,1,0) else if k=3 then (0,0,1) else (0,0,0)
def szT:(n:Nat)→Tr n→T3
 | 0,_=>(0,0,0)
 | n+1,(k,r,p,l)=>add3 (kind3 k) (if k=2 then sum3 (fun x=>szT n x.2) l else (0,0,0))
structure SAt (w:World) (x y z:Nat) (a:T3):Prop where
 bx:w.heap[x]? = some (.cells #[.int .i64 (a.1:Int)] 3 (0,0))
 by' : w.heap[y]? = some (.cells #[.int .i64 (a.2.1:Int)] 3 (0,0))
 bz:w.heap[z]? = some (.cells #[.int .i64 (a.2.2:Int)] 3 (0,0))
 xy:x≠y
 xz:x≠z
 yz:y≠z
end Go.Proofs.YtmjgnfkbnofjoaaGreatDoor
