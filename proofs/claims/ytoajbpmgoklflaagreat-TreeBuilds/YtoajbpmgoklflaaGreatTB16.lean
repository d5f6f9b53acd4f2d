import Derived.Test.YtoajbpmgoklflaaGreatTB15
namespace Go.Proofs.YtoajbpmgoklflaaGreat
set_option maxRecDepth 100000
set_option linter.unusedVariables false
open Go.RowKit
attribute [local go_sem ↓] Go.wp_at_zero Go.wp_at_succ
set_option maxHeartbeats 16000000 in
theorem obranch_any {L:List Sym} {n:Nat} (IH:GrowIHO L n) {w:World} {bs:Nat} {po:Option Addr} {pc:Nat} {P:List (List Int)} {ro:Option Addr} {rc:Nat} {R:List Rw} (h:NdIn w L (n+1) bs po pc P ro R) {c:Nat} (hc:c<P.length) :
  Calls Tryz.prog 85 #[.agg #[.pointer (some ⟨bs,0,none⟩),.slice po P.length pc,.slice ro R.length rc],.int .i64 (c:Int)] w (TreeOutO w (BrF L n P R c)):=by
 have hle:=h.ok.le
 have hfew:=h.ok.few
 have hpl:=h.ok.len _ (List.getElem_mem hc)
 have hL64:L.length≤64:=by obtain ⟨⟨sv,mr,hs,_⟩,_⟩:=h.sig;exact hs.len
 obtain ⟨W1,hW1⟩:∃ W1,W1=(w.alloc (.cells #[.pointer (some ⟨bs,0,none⟩),.slice po P.length pc,.slice ro R.length rc] 106)).alloc zeroCs:=⟨_,rfl⟩
 have KW:Same0 w W1:=by rw [hW1];exact ((Kept.refl _ w).alloc _).alloc _
 have HH:Hid (∀ ww,Same0 W1 ww→NdIn ww L (n+1) bs po pc P ro R):=fun ww hk=>h.same (KW.trans' hk)
 have BX:Hid (∀ ww,Same0 W1 ww→ww.cell? ⟨w.heap.size,0,none⟩=some (.pointer (some ⟨bs,0,none⟩))∧ww.cell? ⟨w.heap.size,1,none⟩=some (.slice po P.length pc)∧ww.cell? ⟨w.heap.size,2,none⟩=some (.slice ro R.length rc)):=fun ww hk=>by
  have hb:W1.heap[w.heap.size]? = some (.cells #[.pointer (some ⟨bs,0,none⟩),.slice po P.length pc,.slice ro R.length rc] 106 (0,0)):=by rw [hW1];exact heap_alloc2_old _ _ _
  exact ⟨cellAt (hk.at0 hb) 0,cellAt (hk.at0 hb) 1,cellAt (hk.at0 hb) 2⟩
 have RS:Hid (∀ ww,Same0 W1 ww→ww.heap[w.heap.size+1]? = some (.cells #[.int .i64 0,.int .i64 0,.slice none 0 0,.slice none 0 0] 35 (0,0))):=fun ww hk=>hk.at0 (by rw [hW1];exact heap_al_al _ _ _)
 obtain ⟨pb,poff,ao,ac,rfl,hpb,hcell,hArg⟩:=h.ps.get hc
 have PC:=(KW.cell (p:=⟨pb,poff+c,none⟩) hpb (fun f=>f)).trans hcell
 have CL:=cloneI_any (hArg.1.same KW)
 have ez:w.heap.size+1<W1.heap.size:=by rw [hW1];simp
 have i1:(0:Int)≤(c:Int):=by omega
 have i2:(c:Int)<(P.length:Int):=by omega
 have CN:Hid (∀ ww,Same0 W1 ww→Calls Tryz.prog 129 #[.pointer (some ⟨bs,0,none⟩)] ww fun e w' => e=.returned (.int .i64 (L.length:Int))∧w' = ww):=fun ww hk=>sg_len (HH.out ww hk).sig
 have HLP:Hid (P.getD c []=P[c]):=getD_lt hc []
 clear h hArg hcell
 obtain ⟨b0,b1,b2⟩:=BX.out W1 (Kept.refl _ _)
 go_enter Tryz.func85,Tryz.ntmps85
 go_upto_region 1 with fail
 rw [← hW1]
 clear hW1
 go_upto_region 2 with (first | (go_at_call 71;refine CL.mono ?_;rintro e w2 ⟨v2,rfl,hrow,hk2⟩;obtain ⟨qo,qc,rfl,a2,q2⟩:=hrow.arg (by omega)))
 have K2:Same0 W1 w2:=hk2
 obtain ⟨kb,hkb⟩:∃ kb,kb=w2.heap.size:=⟨_,rfl⟩
 have HQ:Hid (∀ ww,Same0 w2 ww→ArgT ww qo P[c] qc):=fun ww hk=>a2.same hk
 have HQB:Hid (∀ a,qo=some a→W1.heap.size≤a.block):=q2
 have hN0:Hid ((w2.alloc (.cells #[.int .i64 2,.int .i64 0,.slice qo P[c].length qc,.slice none 0 0] 35)).heap[kb]? = some (.cells #[.int .i64 2,.int .i64 0,.slice qo P[c].length qc,.slice none 0 0] 35 (0,0))):=by rw [hkb];exact heap_alloc_new w2 _
 have K3:Same0 w2 (w2.alloc (.cells #[.int .i64 2,.int .i64 0,.slice qo P[c].length qc,.slice none 0 0] 35)):=(Kept.refl _ _).alloc _
 have hkW:W1.heap.size≤kb:=by rw [hkb];exact K2.size
 have HKB:Hid (kb=w2.heap.size):=hkb
 rw [← hkb]
 have hz3:(w2.alloc (.cells #[.int .i64 2,.int .i64 0,.slice qo P[c].length qc,.slice none 0 0] 35)).heap.size=kb+1:=by rw [hkb];simp
 have HZ3:Hid ((w2.alloc (.cells #[.int .i64 2,.int .i64 0,.slice qo P[c].length qc,.slice none 0 0] 35)).heap.size=kb+1):=hz3
 obtain ⟨b3,_,_⟩:=BX.out _ (K2.trans' K3)
 have CN3:=CN.out _ (K2.trans' K3)
 clear hrow a2 q2 CL PC b0 b1 b2 hkb hk2 hz3
 go_wp2_with (first | (go_at_call 129;refine CN3.mono ?_;rintro e w4 ⟨rfl,rfl⟩))
 clear CN3 b3
 go_loopw [18] (fun i wr=>∃ (k:Nat) (lv:Value) (us:List Value) (l:List (Int × Tr n)),k≤L.length∧i=.int .i64 (k:Int)∧Hid (KidsF L n P R c k=.ok l)∧Hid (wr.heap[kb]? = some (.cells #[.int .i64 2,.int .i64 0,.slice qo P[c].length qc,lv] 35 (0,0)))∧Hid (wr.ownsRow (kb+1) 89 5 lv l.length us)∧Hid (KCelO (fun b=>kb<b∧lv.ownBlock≠some b) wr n us l)∧Same0 w2 wr) (fun i _=>L.length-(intOf i).toNat)
 case atStart=>exact ⟨0,.slice none 0 0,[],[],Nat.zero_le _,rfl,rfl,hN0,World.ownsRow_nil _ _ _ _,KCelO.nil _ _ _,K3⟩
 case round=>
  clear hN0 K3 CN
  obtain ⟨k,lv,us,l,hk,rfl,hK,hN,hr,hus,hw⟩:=hrel
  obtain ⟨lo,lc,rfl⟩:=row_shape hr.out
  have hw1:Same0 W1 wr:=K2.trans' hw
  obtain ⟨b0,b1,b2⟩:=BX.out wr hw1
  have hll:=KidsF_len hK.out
  by_cases hlt:k<L.length
  ·have NI:=HH.out wr hw1
   have CH:=having_any (nv:=.nilIface) (pv:=.nilIface) (rc:=rc) (bs:=bs) (po:=some ⟨pb,poff,none⟩) (pl:=P.length) (pc:=pc) NI.rs NI.ok.rows NI.ok.le c hc (k:Int)
   have BY:Hid (∀ ww,Same0 wr ww→(ww.cell? ⟨w.heap.size,0,none⟩=some (.pointer (some ⟨bs,0,none⟩))∧ww.cell? ⟨w.heap.size,1,none⟩=some (.slice (some ⟨pb,poff,none⟩) P.length pc)∧ww.cell? ⟨w.heap.size,2,none⟩=some (.slice ro R.length rc))∧ww.cell? ⟨kb,3,none⟩=some (.slice lo l.length lc)):=fun ww hk=>⟨BX.out ww (hw1.trans' hk),cellAt (hk.at0 hN.out) 3⟩
   by_cases hhas:0<(havR R c (k:Int)).length
   ·have hgt:(0:Int)<((havR R c (k:Int)).length:Int):=by omega
    have KO:Hid (∀ w3 ho hcc,Same0 wr w3→RwAt w3 ho (havR R c (k:Int))→∀ ww,Same0 w3 ww→Calls Tryz.prog 83 #[.agg #[.pointer (some ⟨bs,0,none⟩),.slice (some ⟨pb,poff,none⟩) P.length pc,.slice ro R.length rc],.int .i64 (c:Int),.int .i64 (k:Int),.slice ho (havR R c (k:Int)).length hcc] ww fun e w' => ∃ vo vc xo xc,e=.returned (.agg #[.pointer (some ⟨bs,0,none⟩),.slice vo (kidP L P c k).length vc,.slice xo (havR R c (k:Int)).length xc])∧Hid (NdIn w' L n bs vo vc (kidP L P c k) xo ((havR R c (k:Int)).map (kidX L c)))∧Same0 ww w'):=by
     intro w3 ho hcc k3 hh ww k4
     have NI3:=(NI.same k3).same k4
     refine (kid_any (NI3.toKid hc hlt (hh.same k4))).mono ?_
     rintro e w' ⟨vo,vc,xo,xc,rfl,z1,z2,z3,z4,z5,z6⟩
     exact ⟨vo,vc,xo,xc,rfl,⟨sg_up (NI3.sig.same z6) z6.size,z1,z2,z3,z4,NI.ok.kid hc hlt (arN_le NI.sig.2 _) (fun e=>by rw [e] at hhas;simp at hhas)⟩,z6⟩
    have GO:Hid (∀ ww vo vc xo xc,NdIn ww L n bs vo vc (kidP L P c k) xo ((havR R c (k:Int)).map (kidX L c))→Calls Tryz.prog 40 #[.agg #[.pointer (some ⟨bs,0,none⟩),.slice vo (kidP L P c k).length vc,.slice xo (havR R c (k:Int)).length xc]] ww (TreeOutO ww (growF L n (kidP L P c k) ((havR R c (k:Int)).map (kidX L c))))):=fun ww vo vc xo xc hi=>by
     have:=IH ww bs vo vc _ xo xc _ hi
     rw [List.length_map] at this
     exact this
    have HS:KidsF L n P R c (k+1)=(match growF L n (kidP L P c k) ((havR R c (k:Int)).map (kidX L c)) with | .error e=>.error e | .ok t=>.ok (l ++ [((k:Int),t)])):=by
     have:=hK.out
     unfold KidsF at this ⊢
     rw [kidsN,this]
     simp only [hhas,decide_true,if_true]
     cases growF L n (kidP L P c k) ((havR R c (k:Int)).map (kidX L c)) <;> rfl
    cases hg:growF L n (kidP L P c k) ((havR R c (k:Int)).map (kidX L c)) with
    | error z=>
     rw [hg] at HS
     have HE:Hid (∀ ww w' e,Same0 wr ww→Same0 ww w' → FkAt w' e z→TreeOutO w (BrF L n P R c) e w'):=fun ww w' e k1 k2 hf=>by
      have:BrF L n P R c=.error z:=by unfold BrF;rw [KidsF_err HS (show k+1≤L.length by omega)]
      rw [this]
      exact ⟨hf,((KW.trans' hw1).trans' k1).trans' k2⟩
     have GE:Hid (∀ ww vo vc xo xc,NdIn ww L n bs vo vc (kidP L P c k) xo ((havR R c (k:Int)).map (kidX L c))→Calls Tryz.prog 40 #[.agg #[.pointer (some ⟨bs,0,none⟩),.slice vo (kidP L P c k).length vc,.slice xo (havR R c (k:Int)).length xc]] ww fun e w' => Hid (FkAt w' e z)∧Same0 ww w'):=fun ww vo vc xo xc hi=>by
      have:=GO.out ww vo vc xo xc hi
      rw [hg] at this
      exact this
     clear HS hg GO hK hr hus hN NI hll hhas
     go_upto_region 7 with (first | (go_at_call 130;refine CH.mono ?_;rintro e w3 ⟨ho,hcc,rfl,hh,hhn,k3⟩))
     have WD:Same0 w3 w3.drew:=(Kept.refl _ _).drew
     refine wp_region_held_drew (S:=fun w' => (w'.cell? ⟨w.heap.size,0,none⟩=some (.pointer (some ⟨bs,0,none⟩))∧w'.cell? ⟨w.heap.size,1,none⟩=some (.slice (some ⟨pb,poff,none⟩) P.length pc)∧w'.cell? ⟨w.heap.size,2,none⟩=some (.slice ro R.length rc))∧w'.cell? ⟨kb,3,none⟩=some (.slice lo l.length lc)) (by kernel_rfl) (BY.out _ (k3.trans' WD)) (fun hHeld=>?_)
     refine wpAnyH_take (i:=0) (v:=.pointer (some ⟨kb,3,none⟩)) rfl (by kernel_rfl) (by kernel_rfl) (by kernel_rfl) (fun _ _ _ h=>h) (.inl ⟨rfl,fun w' hS=>by simp [go_sem]⟩) hHeld ?_
     refine wpAnyH_take (i:=1) (v:=.slice lo l.length lc) rfl (by kernel_rfl) (by kernel_rfl) (by kernel_rfl) (fun _ _ _ h=>h) (.inl ⟨rfl,fun w' hS=>by simp [go_sem,hS.2]⟩) hHeld ?_
     refine wpAnyH_take (i:=2) (v:=.int .i64 (k:Int)) rfl (by kernel_rfl) (by kernel_rfl) (by kernel_rfl) (fun _ _ _ h=>h) (.inl ⟨rfl,fun w' hS=>by simp [go_sem]⟩) hHeld ?_
     refine wpAnyH_take (i:=3) (v:=.agg #[.pointer (some ⟨bs,0,none⟩),.slice (some ⟨pb,poff,none⟩) P.length pc,.slice ro R.length rc]) rfl (by kernel_rfl) (by kernel_rfl) (by kernel_rfl) (fun _ _ _ h=>h) (.inl ⟨rfl,fun w' hS=>by simp [go_sem,hS.1.1,hS.1.2.1,hS.1.2.2]⟩) hHeld ?_
     refine wpAnyH_take (i:=4) (v:=.int .i64 (c:Int)) rfl (by kernel_rfl) (by kernel_rfl) (by kernel_rfl) (fun _ _ _ h=>h) (.inl ⟨rfl,fun w' hS=>by simp [go_sem]⟩) hHeld ?_
     refine wpAnyH_take (i:=5) (v:=.int .i64 (k:Int)) rfl (by kernel_rfl) (by kernel_rfl) (by kernel_rfl) (fun _ _ _ h=>h) (.inl ⟨rfl,fun w' hS=>by simp [go_sem]⟩) hHeld ?_
     refine wpAnyH_take (i:=6) (v:=.slice ho (havR R c (k:Int)).length hcc) rfl (by kernel_rfl) (by kernel_rfl) (by kernel_rfl) (fun _ _ _ h=>h) (.inl ⟨rfl,fun w' hS=>by simp [go_sem]⟩) hHeld ?_
     refine wpAnyH_ready (rs:=[7]) (by kernel_rfl) (by simp) ?_
     refine AllReadyH.cons rfl (fun K hK=>?_) AllReadyH.nil
     refine step_callx rfl (KO.out w3 ho hcc k3 hh _ WD) (by simp [go_sem]) ?_
     rintro e w4 ⟨vo,vc,xo,xc,rfl,ni,k4⟩
     refine ⟨_,rfl,?_⟩
     have k14:=k3.trans' (WD.trans' k4)
     refine hK.out _ _ (BY.out _ k14) (fun hHeld=>?_)
     clear hK K
     refine wpAnyH_ready (rs:=[8]) (by kernel_rfl) (by simp) ?_
     refine AllReadyH.cons rfl (fun K hK=>?_) AllReadyH.nil
     refine step_callp rfl (GE.out w4 vo vc xo xc ni.out) (by simp [go_sem]) ?_
     rintro e w5 ⟨hf,k5⟩
     have HF:=HE.out w4 w5 e k14 k5 hf.out
     obtain ⟨b,rfl,hb⟩:=hf.out
     exact ⟨_,rfl,rfl,HF⟩
    | ok t=>
     rw [hg] at HS
     have HS' : Hid (KidsF L n P R c (k+1)=.ok (l ++ [((k:Int),t)])):=HS
     have GE:Hid (∀ ww vo vc xo xc,NdIn ww L n bs vo vc (kidP L P c k) xo ((havR R c (k:Int)).map (kidX L c))→Calls Tryz.prog 40 #[.agg #[.pointer (some ⟨bs,0,none⟩),.slice vo (kidP L P c k).length vc,.slice xo (havR R c (k:Int)).length xc]] ww fun e w' => ∃ tk tr tpo tpl tpc tko tkl tkc,e=.returned (.agg #[.int .i64 tk,.int .i64 tr,.slice tpo tpl tpc,.slice tko tkl tkc])∧Hid (CsO (fun b=>ww.heap.size≤b) w' n (.agg #[.int .i64 tk,.int .i64 tr,.slice tpo tpl tpc,.slice tko tkl tkc]) t)∧Same0 ww w'):=fun ww vo vc xo xc hi=>by
      have:=GO.out ww vo vc xo xc hi
      rw [hg] at this
      refine this.mono ?_
      rintro e w' ⟨v,rfl,h1,h2⟩
      obtain ⟨tk,tr,tpo,tpl,tpc,tko,tkl,tkc,rfl⟩:=h1.shape
      exact ⟨tk,tr,tpo,tpl,tpc,tko,tkl,tkc,rfl,h1,h2⟩
     have hz2:w2.heap.size=kb:=HKB.out.symm
     have hkr:kb<wr.heap.size:=lt_of_at hN.out
     have FIN:Hid (∀ w4 w5 c0 c1 c2 c3 g cap w11,Same0 wr w4→Same0 w4 w5→CsO (fun b=>w4.heap.size≤b) w5 n (.agg #[c0,c1,c2,c3]) t→w11.ownsRow (kb+1) 89 5 (.slice (some ⟨g,0,none⟩) (l.length+1) cap) (l.length+1) (us ++ [.int .i64 (k:Int),c0,c1,c2,c3])→Kept (fun q=>(Value.slice lo l.length lc).ownBlock=some q) w5 w11→((Value.slice lo l.length lc).ownBlock=some g∨w5.heap.size≤g)→(w11.cell? ⟨kb,3,none⟩=some (.slice lo l.length lc)∧w11.frozen? ⟨kb,3,none⟩=false)∧Hid (∃ us' l', Hid (KidsF L n P R c (k+1)=.ok l')∧Hid ((w11.setCell ⟨kb,3,none⟩ (.slice (some ⟨g,0,none⟩) (l.length+1) cap)).heap[kb]? = some (.cells #[.int .i64 2,.int .i64 0,.slice qo P[c].length qc,.slice (some ⟨g,0,none⟩) (l.length+1) cap] 35 (0,0)))∧Hid ((w11.setCell ⟨kb,3,none⟩ (.slice (some ⟨g,0,none⟩) (l.length+1) cap)).ownsRow (kb+1) 89 5 (.slice (some ⟨g,0,none⟩) (l.length+1) cap) l'.length us')∧Hid (KCelO (fun b=>kb<b∧(Value.slice (some ⟨g,0,none⟩) (l.length+1) cap).ownBlock≠some b) (w11.setCell ⟨kb,3,none⟩ (.slice (some ⟨g,0,none⟩) (l.length+1) cap)) n us' l')∧Same0 w2 (w11.setCell ⟨kb,3,none⟩ (.slice (some ⟨g,0,none⟩) (l.length+1) cap)))):=by
      intro w4 w5 c0 c1 c2 c3 g cap w11 k4 k5 hcs r11 k11 hat
      have kr5:Same0 wr w5:=k4.trans' k5
      have hr5:=kr5.row hr.out (fun _ _ f=>f)
      have n5:=kr5.at0 hN.out
      have nk:¬ (Value.slice lo l.length lc).ownBlock=some kb:=fun e=>by
       obtain ⟨cu,h5⟩:=own_blk hr5 e
       rw [n5] at h5;cases h5
      have n11:=k11.at n5 nk
      have ks:Kept (fun q=>q=kb) w11 (w11.setCell ⟨kb,3,none⟩ (.slice (some ⟨g,0,none⟩) (l.length+1) cap)):=Kept.setCell (p:=⟨kb,3,none⟩) (Kept.refl (fun q=>q=kb) w11) (fun _=>rfl) _
      have z4:=k4.size
      have z5:=k5.size
      have hK1:KCelO (fun b=>(kb<b∧(Value.slice lo l.length lc).ownBlock≠some b∧b<w5.heap.size)∧b<w4.heap.size) w5 n us l:=by
       have:=hus.out.mono (B' := fun b=>(kb<b∧(Value.slice lo l.length lc).ownBlock≠some b∧b<w5.heap.size)∧b<w4.heap.size) (fun b hb q=>⟨⟨q.1,q.2,by omega⟩,by omega⟩)
       exact this.kept kr5 (fun _ _ f=>f)
      have hC1:CsO (fun b=>(kb<b∧(Value.slice lo l.length lc).ownBlock≠some b∧b<w5.heap.size)∧w4.heap.size≤b) w5 n (.agg #[c0,c1,c2,c3]) t:=CsO.mono (fun b hb q=>⟨⟨by omega,fun e=>by have:=(hr.out.lt b e).2;omega,hb⟩,q⟩) hcs
      refine ⟨⟨cellAt n11 3,frozenAt n11 3⟩,us ++ [.int .i64 (k:Int),c0,c1,c2,c3],l ++ [((k:Int),t)],HS', setAt n11 3 _,?_,?_,?_⟩
      ·show World.ownsRow _ _ _ _ _ _ _
       rw [List.length_append]
       exact ks.row r11 (fun q e f=>by
        obtain ⟨cu,h5⟩:=own_blk r11 e
        subst f
        rw [n11] at h5;cases h5)
      ·have a1:=(hK1.snoc (s:=(k:Int)) hC1).kept k11 (fun b q e=>q.2.1 e)
       have a2:=a1.kept ks (fun b q e=>by have:=q.1;omega)
       exact a2.mono (fun b hb q=>⟨q.1,fun e=>by
        simp only [Value.ownBlock,Option.some.injEq] at e
        subst e
        rcases hat with e | e
        ·exact q.2.1 e
        ·have:=q.2.2;omega⟩)
      ·refine Kept.trans (Kept.trans (hw.trans' kr5) k11 (fun i hi e=>?_)) ks (fun i hi e=>by omega)
       have:=(hr5.lt i e).1
       omega
     have FS:Hid (∀ w5 w11 v,Same0 wr w5→Kept (fun q=>(Value.slice lo l.length lc).ownBlock=some q) w5 w11→(w11.cell? ⟨w.heap.size,0,none⟩=some (.pointer (some ⟨bs,0,none⟩))∧w11.cell? ⟨w.heap.size,1,none⟩=some (.slice (some ⟨pb,poff,none⟩) P.length pc)∧w11.cell? ⟨w.heap.size,2,none⟩=some (.slice ro R.length rc))∧(w11.setCell ⟨kb,3,none⟩ v).cell? ⟨w.heap.size,0,none⟩=some (.pointer (some ⟨bs,0,none⟩))∧(w11.setCell ⟨kb,3,none⟩ v).cell? ⟨w.heap.size,1,none⟩=some (.slice (some ⟨pb,poff,none⟩) P.length pc)∧(w11.setCell ⟨kb,3,none⟩ v).cell? ⟨w.heap.size,2,none⟩=some (.slice ro R.length rc)):=by
      intro w5 w11 v k5 k11
      have hr5:=k5.row hr.out (fun _ _ f=>f)
      have kS:Same0 W1 w11:=Kept.trans (hw1.trans' k5) k11 (fun i hi e=>by have:=(hr5.lt i e).1;omega)
      have kT:Same0 W1 (w11.setCell ⟨kb,3,none⟩ v):=Kept.setCell (p:=⟨kb,3,none⟩) kS (fun hi=>by simp at hi;omega) v
      exact ⟨BX.out _ kS,BX.out _ kT⟩
     have HRW:Hid (∀ ww,Same0 wr ww→ww.ownsRow (kb+1) 89 5 (.slice lo l.length lc) l.length us):=fun ww hk=>hk.row hr.out (fun _ _ f=>f)
     have hzz:Hid (∀ ww,Same0 wr ww→kb+1≤ww.heap.size):=fun ww hk=>by have:=hk.size;omega
     have hl1000:l.length≤1000:=by omega
     clear HS hg GO hK hr hus hN NI hll hhas hz2 hkr
     go_upto_region 7 with (first | (go_at_call 130;refine CH.mono ?_;rintro e w3 ⟨ho,hcc,rfl,hh,hhn,k3⟩))
     have WD:Same0 w3 w3.drew:=(Kept.refl _ _).drew
     have y0:w3.drew.cell? ⟨kb,3,none⟩=some (.slice lo l.length lc):=(BY.out _ (k3.trans' WD)).2
     refine wp_region_held_drew (S:=fun w' => w'.cell? ⟨w.heap.size,0,none⟩=some (.pointer (some ⟨bs,0,none⟩))∧w'.cell? ⟨w.heap.size,1,none⟩=some (.slice (some ⟨pb,poff,none⟩) P.length pc)∧w'.cell? ⟨w.heap.size,2,none⟩=some (.slice ro R.length rc)) (by kernel_rfl) (BY.out _ (k3.trans' WD)).1 (fun hHeld=>?_)
     refine wpAnyH_take (i:=0) (v:=.pointer (some ⟨kb,3,none⟩)) rfl (by kernel_rfl) (by kernel_rfl) (by kernel_rfl) (fun _ _ _ h=>h) (.inl ⟨rfl,fun w' hS=>by simp [go_sem]⟩) hHeld ?_
     refine wpAnyH_take (i:=2) (v:=.int .i64 (k:Int)) rfl (by kernel_rfl) (by kernel_rfl) (by kernel_rfl) (fun _ _ _ h=>h) (.inl ⟨rfl,fun w' hS=>by simp [go_sem]⟩) hHeld ?_
     refine wpAnyH_take (i:=3) (v:=.agg #[.pointer (some ⟨bs,0,none⟩),.slice (some ⟨pb,poff,none⟩) P.length pc,.slice ro R.length rc]) rfl (by kernel_rfl) (by kernel_rfl) (by kernel_rfl) (fun _ _ _ h=>h) (.inl ⟨rfl,fun w' hS=>by simp [go_sem,hS.1,hS.2.1,hS.2.2]⟩) hHeld ?_
     refine wpAnyH_take (i:=4) (v:=.int .i64 (c:Int)) rfl (by kernel_rfl) (by kernel_rfl) (by kernel_rfl) (fun _ _ _ h=>h) (.inl ⟨rfl,fun w' hS=>by simp [go_sem]⟩) hHeld ?_
     refine wpAnyH_take (i:=5) (v:=.int .i64 (k:Int)) rfl (by kernel_rfl) (by kernel_rfl) (by kernel_rfl) (fun _ _ _ h=>h) (.inl ⟨rfl,fun w' hS=>by simp [go_sem]⟩) hHeld ?_
     refine wpAnyH_take (i:=6) (v:=.slice ho (havR R c (k:Int)).length hcc) rfl (by kernel_rfl) (by kernel_rfl) (by kernel_rfl) (fun _ _ _ h=>h) (.inl ⟨rfl,fun w' hS=>by simp [go_sem]⟩) hHeld ?_
     refine wpAnyH_ready (rs:=[1,7]) (by kernel_rfl) (by simp) ?_
     refine AllReadyH.cons rfl (fun K hK=>?_) (AllReadyH.cons rfl (fun K hK=>?_) AllReadyH.nil)
     ·go_simp
      refine hK.out _ _ hHeld (fun hHeld=>?_)
      clear hK K
      refine wpAnyH_ready (rs:=[7]) (by kernel_rfl) (by simp) ?_
      refine AllReadyH.cons rfl (fun K hK=>?_) AllReadyH.nil
      refine step_callx rfl (KO.out w3 ho hcc k3 hh _ WD) (by simp [go_sem]) ?_
      rintro e w4 ⟨vo,vc,xo,xc,rfl,ni,k4⟩
      refine ⟨_,rfl,?_⟩
      have k14:=k3.trans' (WD.trans' k4)
      have y4:=(BY.out _ k14).2
      refine hK.out _ _ (BY.out _ k14).1 (fun hHeld=>?_)
      clear hK K
      refine wpAnyH_ready (rs:=[8]) (by kernel_rfl) (by simp) ?_
      refine AllReadyH.cons rfl (fun K hK=>?_) AllReadyH.nil
      refine step_callx rfl (GE.out w4 vo vc xo xc ni.out) (by simp [go_sem]) ?_
      rintro e w5 ⟨tk,tr,tpo,tpl,tpc,tko,tkl,tkc,rfl,hcs,k5⟩
      refine ⟨_,rfl,?_⟩
      have k15:=k14.trans' k5
      have y5:=(BY.out _ k15).2
      have y6:=(BY.out _ (k15.alloc (.cells #[.int .i64 (k:Int),.int .i64 tk,.int .i64 tr,.slice tpo tpl tpc,.slice tko tkl tkc] 89))).2
      refine hK.out _ _ (BY.out _ k15).1 (fun hHeld=>?_)
      clear hK K
      refine wpAnyH_take (i:=9) (v:=.agg #[.int .i64 (k:Int),.int .i64 tk,.int .i64 tr,.slice tpo tpl tpc,.slice tko tkl tkc]) rfl (by kernel_rfl) (by kernel_rfl) (by kernel_rfl) (fun _ _ _ h=>h) (.inl ⟨rfl,fun w' hS=>by simp [go_sem]⟩) hHeld ?_
      refine wpAnyH_ready (rs:=[10]) (by kernel_rfl) (by simp) ?_
      refine AllReadyH.cons rfl (fun K hK=>?_) AllReadyH.nil
      go_simp
      refine hK.out _ _ (BY.out _ (Kept.alloc k15 _)).1 (fun hHeld=>?_)
      clear hK K
      refine wpAnyH_ready (rs:=[11]) (by kernel_rfl) (by simp) ?_
      refine AllReadyH.cons rfl (fun K hK=>?_) AllReadyH.nil
      refine step_kid (w0:=w5) (by rfl) _ _ (by rfl) (kb+1) l.length us (.slice lo l.length lc) (by rfl) ((Kept.refl _ w5).alloc _) (HRW.out _ k15) (.int .i64 (k:Int)) (.int .i64 tk) (.int .i64 tr) (.slice tpo tpl tpc) (.slice tko tkl tkc) w5.heap.size (by rfl) (heap_alloc_new w5 _) (by rfl) (by rfl) (by rfl) (by rfl) (by rfl) (hzz.out _ k15) hl1000 ?_
      intro g cap w11 r11 k11 hat
      obtain ⟨⟨y1,y2⟩,FF⟩:=FIN.out w4 w5 _ _ _ _ g cap w11 k14 k5 hcs.out r11 k11 hat
      obtain ⟨e11,f11⟩:=FS.out w5 w11 (.slice (some ⟨g,0,none⟩) (l.length+1) cap) k15 k11
      refine hK.out _ _ e11 (fun hHeld=>?_)
      clear hK K
      refine wpAnyH_take (i:=12) (v:=.pointer (some ⟨kb,3,none⟩)) rfl (by kernel_rfl) (by kernel_rfl) (by kernel_rfl) (fun _ _ _ h=>h) (.inl ⟨rfl,fun w' hS=>by simp [go_sem]⟩) hHeld ?_
      refine wpAnyH_ready (rs:=[13]) (by kernel_rfl) (by simp) ?_
      refine AllReadyH.cons rfl (fun K hK=>?_) AllReadyH.nil
      go_simp
      refine hK.out _ _ f11 (fun hHeld=>?_)
      clear hK K
      refine wpAnyH_done (by kernel_rfl) ?_ _
      go_wp2_with fail
      obtain ⟨us', l', z1,z2,z3,z4,z5⟩:=FF.out
      exact ⟨⟨k+1,_,us', l', by omega,by go_num,z1,z2,z3,z4,z5⟩,by simp [intOf];omega⟩
     ·refine step_callx rfl (KO.out w3 ho hcc k3 hh _ WD) (by simp [go_sem]) ?_
      rintro e w4 ⟨vo,vc,xo,xc,rfl,ni,k4⟩
      refine ⟨_,rfl,?_⟩
      have k14:=k3.trans' (WD.trans' k4)
      have y4:=(BY.out _ k14).2
      refine hK.out _ _ (BY.out _ k14).1 (fun hHeld=>?_)
      clear hK K
      refine wpAnyH_ready (rs:=[1,8]) (by kernel_rfl) (by simp) ?_
      refine AllReadyH.cons rfl (fun K hK=>?_) (AllReadyH.cons rfl (fun K hK=>?_) AllReadyH.nil)
      ·go_simp
       refine hK.out _ _ hHeld (fun hHeld=>?_)
       clear hK K
       refine wpAnyH_ready (rs:=[8]) (by kernel_rfl) (by simp) ?_
       refine AllReadyH.cons rfl (fun K hK=>?_) AllReadyH.nil
       refine step_callx rfl (GE.out w4 vo vc xo xc ni.out) (by simp [go_sem]) ?_
       rintro e w5 ⟨tk,tr,tpo,tpl,tpc,tko,tkl,tkc,rfl,hcs,k5⟩
       refine ⟨_,rfl,?_⟩
       have k15:=k14.trans' k5
       have y5:=(BY.out _ k15).2
       have y6:=(BY.out _ (k15.alloc (.cells #[.int .i64 (k:Int),.int .i64 tk,.int .i64 tr,.slice tpo tpl tpc,.slice tko tkl tkc] 89))).2
       refine hK.out _ _ (BY.out _ k15).1 (fun hHeld=>?_)
       clear hK K
       refine wpAnyH_take (i:=9) (v:=.agg #[.int .i64 (k:Int),.int .i64 tk,.int .i64 tr,.slice tpo tpl tpc,.slice tko tkl tkc]) rfl (by kernel_rfl) (by kernel_rfl) (by kernel_rfl) (fun _ _ _ h=>h) (.inl ⟨rfl,fun w' hS=>by simp [go_sem]⟩) hHeld ?_
       refine wpAnyH_ready (rs:=[10]) (by kernel_rfl) (by simp) ?_
       refine AllReadyH.cons rfl (fun K hK=>?_) AllReadyH.nil
       go_simp
       refine hK.out _ _ (BY.out _ (Kept.alloc k15 _)).1 (fun hHeld=>?_)
       clear hK K
       refine wpAnyH_ready (rs:=[11]) (by kernel_rfl) (by simp) ?_
       refine AllReadyH.cons rfl (fun K hK=>?_) AllReadyH.nil
       refine step_kid (w0:=w5) (by rfl) _ _ (by rfl) (kb+1) l.length us (.slice lo l.length lc) (by rfl) ((Kept.refl _ w5).alloc _) (HRW.out _ k15) (.int .i64 (k:Int)) (.int .i64 tk) (.int .i64 tr) (.slice tpo tpl tpc) (.slice tko tkl tkc) w5.heap.size (by rfl) (heap_alloc_new w5 _) (by rfl) (by rfl) (by rfl) (by rfl) (by rfl) (hzz.out _ k15) hl1000 ?_
       intro g cap w11 r11 k11 hat
       obtain ⟨⟨y1,y2⟩,FF⟩:=FIN.out w4 w5 _ _ _ _ g cap w11 k14 k5 hcs.out r11 k11 hat
       obtain ⟨e11,f11⟩:=FS.out w5 w11 (.slice (some ⟨g,0,none⟩) (l.length+1) cap) k15 k11
       refine hK.out _ _ e11 (fun hHeld=>?_)
       clear hK K
       refine wpAnyH_take (i:=12) (v:=.pointer (some ⟨kb,3,none⟩)) rfl (by kernel_rfl) (by kernel_rfl) (by kernel_rfl) (fun _ _ _ h=>h) (.inl ⟨rfl,fun w' hS=>by simp [go_sem]⟩) hHeld ?_
       refine wpAnyH_ready (rs:=[13]) (by kernel_rfl) (by simp) ?_
       refine AllReadyH.cons rfl (fun K hK=>?_) AllReadyH.nil
       go_simp
       refine hK.out _ _ f11 (fun hHeld=>?_)
       clear hK K
       refine wpAnyH_done (by kernel_rfl) ?_ _
       go_wp2_with fail
       obtain ⟨us', l', z1,z2,z3,z4,z5⟩:=FF.out
       exact ⟨⟨k+1,_,us', l', by omega,by go_num,z1,z2,z3,z4,z5⟩,by simp [intOf];omega⟩
      ·refine step_callx rfl (GE.out w4 vo vc xo xc ni.out) (by simp [go_sem]) ?_
       rintro e w5 ⟨tk,tr,tpo,tpl,tpc,tko,tkl,tkc,rfl,hcs,k5⟩
       refine ⟨_,rfl,?_⟩
       have k15:=k14.trans' k5
       have y5:=(BY.out _ k15).2
       have y6:=(BY.out _ (k15.alloc (.cells #[.int .i64 (k:Int),.int .i64 tk,.int .i64 tr,.slice tpo tpl tpc,.slice tko tkl tkc] 89))).2
       refine hK.out _ _ (BY.out _ k15).1 (fun hHeld=>?_)
       clear hK K
       refine wpAnyH_take (i:=9) (v:=.agg #[.int .i64 (k:Int),.int .i64 tk,.int .i64 tr,.slice tpo tpl tpc,.slice tko tkl tkc]) rfl (by kernel_rfl) (by kernel_rfl) (by kernel_rfl) (fun _ _ _ h=>h) (.inl ⟨rfl,fun w' hS=>by simp [go_sem]⟩) hHeld ?_
       refine wpAnyH_ready (rs:=[1,10]) (by kernel_rfl) (by simp) ?_
       refine AllReadyH.cons rfl (fun K hK=>?_) (AllReadyH.cons rfl (fun K hK=>?_) AllReadyH.nil)
       ·go_simp
        refine hK.out _ _ hHeld (fun hHeld=>?_)
        clear hK K
        refine wpAnyH_ready (rs:=[10]) (by kernel_rfl) (by simp) ?_
        refine AllReadyH.cons rfl (fun K hK=>?_) AllReadyH.nil
        go_simp
        refine hK.out _ _ (BY.out _ (Kept.alloc k15 _)).1 (fun hHeld=>?_)
        clear hK K
        refine wpAnyH_ready (rs:=[11]) (by kernel_rfl) (by simp) ?_
        refine AllReadyH.cons rfl (fun K hK=>?_) AllReadyH.nil
        refine step_kid (w0:=w5) (by rfl) _ _ (by rfl) (kb+1) l.length us (.slice lo l.length lc) (by rfl) ((Kept.refl _ w5).alloc _) (HRW.out _ k15) (.int .i64 (k:Int)) (.int .i64 tk) (.int .i64 tr) (.slice tpo tpl tpc) (.slice tko tkl tkc) w5.heap.size (by rfl) (heap_alloc_new w5 _) (by rfl) (by rfl) (by rfl) (by rfl) (by rfl) (hzz.out _ k15) hl1000 ?_
        intro g cap w11 r11 k11 hat
        obtain ⟨⟨y1,y2⟩,FF⟩:=FIN.out w4 w5 _ _ _ _ g cap w11 k14 k5 hcs.out r11 k11 hat
        obtain ⟨e11,f11⟩:=FS.out w5 w11 (.slice (some ⟨g,0,none⟩) (l.length+1) cap) k15 k11
        refine hK.out _ _ e11 (fun hHeld=>?_)
        clear hK K
        refine wpAnyH_take (i:=12) (v:=.pointer (some ⟨kb,3,none⟩)) rfl (by kernel_rfl) (by kernel_rfl) (by kernel_rfl) (fun _ _ _ h=>h) (.inl ⟨rfl,fun w' hS=>by simp [go_sem]⟩) hHeld ?_
        refine wpAnyH_ready (rs:=[13]) (by kernel_rfl) (by simp) ?_
        refine AllReadyH.cons rfl (fun K hK=>?_) AllReadyH.nil
        go_simp
        refine hK.out _ _ f11 (fun hHeld=>?_)
        clear hK K
        refine wpAnyH_done (by kernel_rfl) ?_ _
        go_wp2_with fail
        obtain ⟨us', l', z1,z2,z3,z4,z5⟩:=FF.out
        exact ⟨⟨k+1,_,us', l', by omega,by go_num,z1,z2,z3,z4,z5⟩,by simp [intOf];omega⟩
       ·go_simp
        refine hK.out _ _ (BY.out _ (Kept.alloc k15 _)).1 (fun hHeld=>?_)
        clear hK K
        refine wpAnyH_ready (rs:=[1]) (by kernel_rfl) (by simp) ?_
        refine AllReadyH.cons rfl (fun K hK=>?_) AllReadyH.nil
        go_simp
        refine hK.out _ _ hHeld (fun hHeld=>?_)
        clear hK K
        refine wpAnyH_ready (rs:=[11]) (by kernel_rfl) (by simp) ?_
        refine AllReadyH.cons rfl (fun K hK=>?_) AllReadyH.nil
        refine step_kid (w0:=w5) (by rfl) _ _ (by rfl) (kb+1) l.length us (.slice lo l.length lc) (by rfl) ((Kept.refl _ w5).alloc _) (HRW.out _ k15) (.int .i64 (k:Int)) (.int .i64 tk) (.int .i64 tr) (.slice tpo tpl tpc) (.slice tko tkl tkc) w5.heap.size (by rfl) (heap_alloc_new w5 _) (by rfl) (by rfl) (by rfl) (by rfl) (by rfl) (hzz.out _ k15) hl1000 ?_
        intro g cap w11 r11 k11 hat
        obtain ⟨⟨y1,y2⟩,FF⟩:=FIN.out w4 w5 _ _ _ _ g cap w11 k14 k5 hcs.out r11 k11 hat
        obtain ⟨e11,f11⟩:=FS.out w5 w11 (.slice (some ⟨g,0,none⟩) (l.length+1) cap) k15 k11
        refine hK.out _ _ e11 (fun hHeld=>?_)
        clear hK K
        refine wpAnyH_take (i:=12) (v:=.pointer (some ⟨kb,3,none⟩)) rfl (by kernel_rfl) (by kernel_rfl) (by kernel_rfl) (fun _ _ _ h=>h) (.inl ⟨rfl,fun w' hS=>by simp [go_sem]⟩) hHeld ?_
        refine wpAnyH_ready (rs:=[13]) (by kernel_rfl) (by simp) ?_
        refine AllReadyH.cons rfl (fun K hK=>?_) AllReadyH.nil
        go_simp
        refine hK.out _ _ f11 (fun hHeld=>?_)
        clear hK K
        refine wpAnyH_done (by kernel_rfl) ?_ _
        go_wp2_with fail
        obtain ⟨us', l', z1,z2,z3,z4,z5⟩:=FF.out
        exact ⟨⟨k+1,_,us', l', by omega,by go_num,z1,z2,z3,z4,z5⟩,by simp [intOf];omega⟩
   ·have HS:Hid (KidsF L n P R c (k+1)=.ok l):=by
     have:=hK.out
     unfold KidsF at this
     show KidsF L n P R c (k+1)=.ok l
     unfold KidsF
     rw [kidsN,this]
     simp only [hhas,decide_false,Bool.false_eq_true,if_false]
    have hl0:(havR R c (k:Int)).length=0:=by omega
    rw [hl0] at CH
    have HK2:Hid (∀ w3,Same0 wr w3→Hid (w3.heap[kb]? = some (.cells #[.int .i64 2,.int .i64 0,.slice qo P[c].length qc,.slice lo l.length lc] 35 (0,0)))∧Hid (w3.ownsRow (kb+1) 89 5 (.slice lo l.length lc) l.length us)∧Hid (KCelO (fun b=>kb<b∧(Value.slice lo l.length lc).ownBlock≠some b) w3 n us l)):=fun w3 k3=>⟨k3.at0 hN.out,k3.row hr.out (fun _ _ f=>f),hus.out.kept k3 (fun _ _ f=>f)⟩
    clear hK hN hr hus NI hhas hl0 hll
    go_wp2_with (first | (go_at_call 130;refine CH.mono ?_;rintro e w3 ⟨ho,hcc,rfl,hh,hhn,k3⟩))
    obtain ⟨z1,z2,z3⟩:=HK2.out w3 k3
    exact ⟨⟨k+1,_,us,l,by omega,by go_num,HS,z1,z2,z3,hw.trans' k3⟩,by simp [intOf];omega⟩
  ·obtain rfl:k=L.length:=by omega
   have hN' := hN.out
   have rs:=RS.out wr hw1
   have n0:=cellAt hN' 0
   have n1:=cellAt hN' 1
   have n2:=cellAt hN' 2
   have n3:=cellAt hN' 3
   have q0:=cellAt rs 0
   have q1:=cellAt rs 1
   have q2:=cellAt rs 2
   have q3:=cellAt rs 3
   have f0:=frozenAt rs 0
   have f1:=frozenAt rs 1
   have f2:=frozenAt rs 2
   have f3:=frozenAt rs 3
   simp only [List.getElem?_toArray,List.getElem?_cons_zero,List.getElem?_cons_succ] at n0 n1 n2 n3 q0 q1 q2 q3
   have s3:=setAt (setAt (setAt (setAt rs 0 (.int .i64 2)) 1 (.int .i64 0)) 2 (.slice qo P[c].length qc)) 3 (.slice lo l.length lc)
   have GG:Hid ((((((wr.setCell ⟨w.heap.size+1,0,none⟩ (.int .i64 2)).setCell ⟨w.heap.size+1,1,none⟩ (.int .i64 0)).setCell ⟨w.heap.size+1,2,none⟩ (.slice qo P[c].length qc)).setCell ⟨w.heap.size+1,3,none⟩ (.slice lo l.length lc))).cell? ⟨w.heap.size+1,0,none⟩=some (.int .i64 2)∧(((((wr.setCell ⟨w.heap.size+1,0,none⟩ (.int .i64 2)).setCell ⟨w.heap.size+1,1,none⟩ (.int .i64 0)).setCell ⟨w.heap.size+1,2,none⟩ (.slice qo P[c].length qc)).setCell ⟨w.heap.size+1,3,none⟩ (.slice lo l.length lc))).cell? ⟨w.heap.size+1,1,none⟩=some (.int .i64 0)∧(((((wr.setCell ⟨w.heap.size+1,0,none⟩ (.int .i64 2)).setCell ⟨w.heap.size+1,1,none⟩ (.int .i64 0)).setCell ⟨w.heap.size+1,2,none⟩ (.slice qo P[c].length qc)).setCell ⟨w.heap.size+1,3,none⟩ (.slice lo l.length lc))).cell? ⟨w.heap.size+1,2,none⟩=some (.slice qo P[c].length qc)∧(((((wr.setCell ⟨w.heap.size+1,0,none⟩ (.int .i64 2)).setCell ⟨w.heap.size+1,1,none⟩ (.int .i64 0)).setCell ⟨w.heap.size+1,2,none⟩ (.slice qo P[c].length qc)).setCell ⟨w.heap.size+1,3,none⟩ (.slice lo l.length lc))).cell? ⟨w.heap.size+1,3,none⟩=some (.slice lo l.length lc)):=⟨cellAt s3 0,cellAt s3 1,cellAt s3 2,cellAt s3 3⟩
   have FIN:Hid (TreeOutO w (BrF L n P R c) (.returned (.agg #[.int .i64 2,.int .i64 0,.slice qo P[c].length qc,.slice lo l.length lc])) (((((wr.setCell ⟨w.heap.size+1,0,none⟩ (.int .i64 2)).setCell ⟨w.heap.size+1,1,none⟩ (.int .i64 0)).setCell ⟨w.heap.size+1,2,none⟩ (.slice qo P[c].length qc)).setCell ⟨w.heap.size+1,3,none⟩ (.slice lo l.length lc)))):=by
    have e1:BrF L n P R c=.ok (2,0,P.getD c [],l):=by unfold BrF;rw [hK.out]
    rw [e1]
    have kk:Kept (fun q=>q=w.heap.size+1) wr (((((wr.setCell ⟨w.heap.size+1,0,none⟩ (.int .i64 2)).setCell ⟨w.heap.size+1,1,none⟩ (.int .i64 0)).setCell ⟨w.heap.size+1,2,none⟩ (.slice qo P[c].length qc)).setCell ⟨w.heap.size+1,3,none⟩ (.slice lo l.length lc))):=by
     have k1:=Kept.setCell (p:=⟨w.heap.size+1,0,none⟩) (Kept.refl (fun q=>q=w.heap.size+1) wr) (fun _=>rfl) (.int .i64 2)
     have k2:=Kept.setCell (p:=⟨w.heap.size+1,1,none⟩) k1 (fun _=>rfl) (.int .i64 0)
     have k3:=Kept.setCell (p:=⟨w.heap.size+1,2,none⟩) k2 (fun _=>rfl) (.slice qo P[c].length qc)
     exact Kept.setCell (p:=⟨w.heap.size+1,3,none⟩) k3 (fun _=>rfl) (.slice lo l.length lc)
    have hcs:=branch_co (B:=fun b=>W1.heap.size≤b) hr.out (hus.out.mono (fun b hb q=>⟨by have:=q.1;omega,q.2,fun a e f=>by obtain ⟨cu,hcu⟩:=(HQ.out w2 (Kept.refl _ _)).typ a e;have h1:=lt_of_at hcu;have h2:=q.1;have h3:=HKB.out;omega⟩)) (fun b e=>by have:=(hr.out.lt b e).1;omega) (HQ.out wr hw) HQB.out 2 0
    rw [HLP.out]
    refine ⟨_,rfl,CsO.mono (fun b hb q=>by have:=q;omega) (CsO.kept kk (fun b q e=>by have:W1.heap.size≤b:=q;omega) hcs),Kept.trans (KW.trans' hw1) kk (fun i hi e=>by omega)⟩
   clear hN hr hus hN' rs s3 hK
   go_wp2
   obtain ⟨g0,g1,g2,g3⟩:=GG.out
   exact bodyPost_ret (v:=.agg #[.int .i64 2,.int .i64 0,.slice qo P[c].length qc,.slice lo l.length lc]) (by simp [results,Tryz.results85,go_sem,g0,g1,g2,g3]) rfl FIN.out
set_option maxHeartbeats 16000000 in
theorem ogrow_step {L:List Sym} {n:Nat} (IH:GrowIHO L n):GrowIHO L (n+1):=by
 intro w bs po pc P ro rc R h
 have hle:=h.ok.le
 have CPP:=fun ww (hk:Same0 w ww)=>parting_any (bs:=bs) (po:=po) (pc:=pc) (rc:=rc) (h.rs.same hk) h.ok.rows hle h.ok.few
 have CBB:=fun c (hc:c<P.length) ww (hk:Same0 w ww)=>obranch_any IH (rc:=rc) (h.same hk) hc
 obtain ⟨N,hN⟩:∃ N,N=R.length:=⟨_,rfl⟩
 have HN:Hid (N=R.length):=hN
 rw [← hN] at CPP CBB ⊢
 obtain ⟨W1,hW1⟩:∃ W1,W1=(w.alloc (.cells #[.pointer (some ⟨bs,0,none⟩),.slice po P.length pc,.slice ro N rc] 106)).alloc zeroCs:=⟨_,rfl⟩
 have KW:Same0 w W1:=by rw [hW1];exact ((Kept.refl _ w).alloc _).alloc _
 have ez:w.heap.size+1<W1.heap.size:=by rw [hW1];simp
 have HH:Hid (∀ ww,Same0 W1 ww→NdIn ww L (n+1) bs po pc P ro R):=fun ww hk=>h.same (KW.trans' hk)
 have BX:Hid (∀ ww,Same0 W1 ww→ww.cell? ⟨w.heap.size,0,none⟩=some (.pointer (some ⟨bs,0,none⟩))∧ww.cell? ⟨w.heap.size,1,none⟩=some (.slice po P.length pc)∧ww.cell? ⟨w.heap.size,2,none⟩=some (.slice ro N rc)):=fun ww hk=>by
  have hb:W1.heap[w.heap.size]? = some (.cells #[.pointer (some ⟨bs,0,none⟩),.slice po P.length pc,.slice ro N rc] 106 (0,0)):=by rw [hW1];exact heap_alloc2_old _ _ _
  exact ⟨cellAt (hk.at0 hb) 0,cellAt (hk.at0 hb) 1,cellAt (hk.at0 hb) 2⟩
 have RS:Hid (∀ ww,Same0 W1 ww→ww.heap[w.heap.size+1]? = some (.cells #[.int .i64 0,.int .i64 0,.slice none 0 0,.slice none 0 0] 35 (0,0))):=fun ww hk=>hk.at0 (by rw [hW1];exact heap_al_al _ _ _)
 have RC:Hid (∀ ww,Same0 W1 ww→(ww.cell? ⟨w.heap.size+1,0,none⟩=some (.int .i64 0)∧ww.cell? ⟨w.heap.size+1,1,none⟩=some (.int .i64 0)∧ww.cell? ⟨w.heap.size+1,2,none⟩=some (.slice none 0 0)∧ww.cell? ⟨w.heap.size+1,3,none⟩=some (.slice none 0 0))∧ww.frozen? ⟨w.heap.size+1,0,none⟩=false∧ww.frozen? ⟨w.heap.size+1,1,none⟩=false∧ww.frozen? ⟨w.heap.size+1,2,none⟩=false∧ww.frozen? ⟨w.heap.size+1,3,none⟩=false):=fun ww hk=>by
  have rs:=RS.out ww hk
  exact ⟨⟨cellAt rs 0,cellAt rs 1,cellAt rs 2,cellAt rs 3⟩,frozenAt rs 0,frozenAt rs 1,frozenAt rs 2,frozenAt rs 3⟩
 have PUT:Hid (∀ ww x0 x1 x2 x3,Same0 W1 ww→((((((ww.setCell ⟨w.heap.size+1,0,none⟩ x0).setCell ⟨w.heap.size+1,1,none⟩ x1).setCell ⟨w.heap.size+1,2,none⟩ x2).setCell ⟨w.heap.size+1,3,none⟩ x3).cell? ⟨w.heap.size+1,0,none⟩=some x0)∧((((ww.setCell ⟨w.heap.size+1,0,none⟩ x0).setCell ⟨w.heap.size+1,1,none⟩ x1).setCell ⟨w.heap.size+1,2,none⟩ x2).setCell ⟨w.heap.size+1,3,none⟩ x3).cell? ⟨w.heap.size+1,1,none⟩=some x1∧((((ww.setCell ⟨w.heap.size+1,0,none⟩ x0).setCell ⟨w.heap.size+1,1,none⟩ x1).setCell ⟨w.heap.size+1,2,none⟩ x2).setCell ⟨w.heap.size+1,3,none⟩ x3).cell? ⟨w.heap.size+1,2,none⟩=some x2∧((((ww.setCell ⟨w.heap.size+1,0,none⟩ x0).setCell ⟨w.heap.size+1,1,none⟩ x1).setCell ⟨w.heap.size+1,2,none⟩ x2).setCell ⟨w.heap.size+1,3,none⟩ x3).cell? ⟨w.heap.size+1,3,none⟩=some x3)∧Kept (fun q=>q=w.heap.size+1) ww ((((ww.setCell ⟨w.heap.size+1,0,none⟩ x0).setCell ⟨w.heap.size+1,1,none⟩ x1).setCell ⟨w.heap.size+1,2,none⟩ x2).setCell ⟨w.heap.size+1,3,none⟩ x3)∧Same0 w ((((ww.setCell ⟨w.heap.size+1,0,none⟩ x0).setCell ⟨w.heap.size+1,1,none⟩ x1).setCell ⟨w.heap.size+1,2,none⟩ x2).setCell ⟨w.heap.size+1,3,none⟩ x3)):=by
  intro ww x0 x1 x2 x3 hk
  have rs:=RS.out ww hk
  have s3:=setAt (setAt (setAt (setAt rs 0 x0) 1 x1) 2 x2) 3 x3
  have k1:=Kept.setCell (p:=⟨w.heap.size+1,0,none⟩) (Kept.refl (fun q=>q=w.heap.size+1) ww) (fun _=>rfl) x0
  have k2:=Kept.setCell (p:=⟨w.heap.size+1,1,none⟩) k1 (fun _=>rfl) x1
  have k3:=Kept.setCell (p:=⟨w.heap.size+1,2,none⟩) k2 (fun _=>rfl) x2
  have k4:=Kept.setCell (p:=⟨w.heap.size+1,3,none⟩) k3 (fun _=>rfl) x3
  exact ⟨⟨cellAt s3 0,cellAt s3 1,cellAt s3 2,cellAt s3 3⟩,k4,Kept.trans (KW.trans' hk) k4 (fun i hi e=>by omega)⟩
 have CP:=CPP W1 KW
 obtain ⟨b0,b1,b2⟩:=BX.out W1 (Kept.refl _ _)
 have HR0:Hid (0<R.length→∃ b off,ro=some ⟨b,off,none⟩∧∀ ww,Same0 W1 ww→ww.cell? ⟨b,off,none⟩=some (.int .i64 (R.headD (0,[],[])).1)):=fun hp=>by
  obtain ⟨b,off,e,hb,ao,ac,bo,bc,r0,_⟩:=h.rs.get hp
  refine ⟨b,off,e,fun ww hk=>?_⟩
  have r0' : w.cell? ⟨b,off,none⟩=some (.int .i64 R[0].1):=by simpa using r0
  have e2:R.headD (0,[],[])=R[0]:=by
   cases R with
   | nil=>simp at hp
   | cons x r=>rfl
  rw [e2]
  exact ((KW.trans' hk).cell (p:=⟨b,off,none⟩) hb (fun f=>f)).trans r0'
 by_cases h0:N=0
 ·have hg:=growF_zero (L:=L) (n:=n) (P:=P) (by rw [← HN.out];exact h0)
  rw [hg]
  clear h hg HH CPP CBB HN hN HR0
  subst h0
  generalize partI R P.length=z at *
  go_enter Tryz.func40,Tryz.ntmps40
  go_upto_region 1 with fail
  rw [← hW1]
  clear hW1
  go_upto_region 3 with (first | (go_at_call 84;refine CP.mono ?_;rintro e w2 ⟨rfl,k2⟩;obtain ⟨c0,c1,c2⟩:=BX.out w2 k2;obtain ⟨⟨r0,r1,r2,r3⟩,f0,f1,f2,f3⟩:=RC.out w2 k2))
  go_wp2
  obtain ⟨⟨g0,g1,g2,g3⟩,kk,ks⟩:=PUT.out w2 (.int .i64 3) (.int .i64 0) (.slice none 0 0) (.slice none 0 0) k2
  exact bodyPost_ret (v:=.agg #[.int .i64 3,.int .i64 0,.slice none 0 0,.slice none 0 0]) (by simp [results,Tryz.results40,go_sem,g0,g1,g2,g3]) rfl ⟨_,rfl,leaf_co _ _ _ _ _,ks⟩
 ·have hb0:((N:Int) == 0)=false:=by simpa using h0
  have hR0:¬ R.length=0:=by rw [← HN.out];exact h0
  cases hp:partN R P.length with
  | some c=>
   obtain ⟨hc,_⟩:=partN_some hp
   have hz:partI R P.length=(c:Int):=by unfold partI;rw [hp]
   rw [hz] at CP
   rw [growF_branch hR0 hp]
   have i1:(0:Int)≤(c:Int):=by omega
   have CB:Hid (∀ ww,Same0 W1 ww→Calls Tryz.prog 85 #[.agg #[.pointer (some ⟨bs,0,none⟩),.slice po P.length pc,.slice ro N rc],.int .i64 (c:Int)] ww (TreeOutO ww (BrF L n P R c))):=fun ww hk=>CBB c hc ww (KW.trans' hk)
   cases hbr:BrF L n P R c with
   | ok t=>
    rw [hbr] at CB
    have CB2:Hid (∀ ww,Same0 W1 ww→Calls Tryz.prog 85 #[.agg #[.pointer (some ⟨bs,0,none⟩),.slice po P.length pc,.slice ro N rc],.int .i64 (c:Int)] ww fun e w' => ∃ tk tr tpo tpl tpc tko tkl tkc,e=.returned (.agg #[.int .i64 tk,.int .i64 tr,.slice tpo tpl tpc,.slice tko tkl tkc])∧Hid (CsO (fun b=>ww.heap.size≤b) w' (n+1) (.agg #[.int .i64 tk,.int .i64 tr,.slice tpo tpl tpc,.slice tko tkl tkc]) t)∧Same0 ww w'):=fun ww hk=>by
     refine (CB.out ww hk).mono ?_
     rintro e w' ⟨v,rfl,h1,h2⟩
     obtain ⟨tk,tr,tpo,tpl,tpc,tko,tkl,tkc,rfl⟩:=h1.shape
     exact ⟨tk,tr,tpo,tpl,tpc,tko,tkl,tkc,rfl,h1,h2⟩
    clear h HH CPP CBB HN hN hR0 CB hbr hp hz h0 HR0
    go_enter Tryz.func40,Tryz.ntmps40
    go_upto_region 1 with fail
    rw [← hW1]
    clear hW1
    go_upto_region 5 with (first | (go_at_call 84;refine CP.mono ?_;rintro e w2 ⟨rfl,k2⟩;obtain ⟨c0,c1,c2⟩:=BX.out w2 k2))
    have CB3:=CB2.out w2 k2
    go_wp2_with (first | (go_at_call 85;refine CB3.mono ?_;rintro e w3 ⟨tk,tr,tpo,tpl,tpc,tko,tkl,tkc,rfl,hcs,k3⟩;obtain ⟨⟨r0,r1,r2,r3⟩,f0,f1,f2,f3⟩:=RC.out w3 (k2.trans' k3)))
    obtain ⟨⟨g0,g1,g2,g3⟩,kk,ks⟩:=PUT.out w3 (.int .i64 tk) (.int .i64 tr) (.slice tpo tpl tpc) (.slice tko tkl tkc) (k2.trans' k3)
    have z2:=k2.size
    exact bodyPost_ret (v:=.agg #[.int .i64 tk,.int .i64 tr,.slice tpo tpl tpc,.slice tko tkl tkc]) (by simp [results,Tryz.results40,go_sem,g0,g1,g2,g3]) rfl ⟨_,rfl,CsO.mono (fun b hb q=>by have:w2.heap.size≤b:=q;omega) (CsO.kept kk (fun b q e=>by have:w2.heap.size≤b:=q;omega) hcs.out),ks⟩
   | error z=>
    rw [hbr] at CB
    have CB2:Hid (∀ ww,Same0 W1 ww→Calls Tryz.prog 85 #[.agg #[.pointer (some ⟨bs,0,none⟩),.slice po P.length pc,.slice ro N rc],.int .i64 (c:Int)] ww fun e w' => ∃ b,e=.panicked [{ v:=.iface 98 (.pointer (some ⟨b,0,none⟩)),recovered:=false }]∧Hid (w'.heap[b]? = some (.cells #[.int .i64 82,.int .i64 z,.nilIface] 100 (0,0)))∧Same0 ww w'):=fun ww hk=>by
     refine (CB.out ww hk).mono ?_
     rintro e w' ⟨⟨b,h1,h2⟩,h3⟩
     exact ⟨b,h1,h2,h3⟩
    clear h HH CPP CBB HN hN hR0 CB hbr hp hz h0 HR0
    go_enter Tryz.func40,Tryz.ntmps40
    go_upto_region 1 with fail
    rw [← hW1]
    clear hW1
    go_upto_region 5 with (first | (go_at_call 84;refine CP.mono ?_;rintro e w2 ⟨rfl,k2⟩;obtain ⟨c0,c1,c2⟩:=BX.out w2 k2))
    have CB3:=CB2.out w2 k2
    go_wp2_with (first | (go_at_call 85;refine CB3.mono ?_;rintro e w3 ⟨b,rfl,hb,k3⟩))
    exact ⟨rfl,⟨b,rfl,hb.out⟩,(KW.trans' k2).trans' k3⟩
  | none=>
   have hz:partI R P.length = -1:=by unfold partI;rw [hp]
   rw [hz] at CP
   obtain ⟨rb,roff,rfl,HRC⟩:=HR0.out (by omega)
   have HRD:Hid (∀ ww,Same0 W1 ww→ww.cell? ⟨rb,roff,none⟩=some (.int .i64 (R.headD (0,[],[])).1)):=HRC
   have i1:(0:Int)<(N:Int):=by omega
   by_cases h1:N=1
   ·rw [growF_leaf (by rw [← HN.out];exact h1) hp]
    have hb1:((N:Int) == 1)=true:=by subst h1;rfl
    clear h HH CPP CBB HN hN hR0 hp hz h0 HRC HR0 h1
    generalize (R.headD (0,[],[])).1=z at *
    go_enter Tryz.func40,Tryz.ntmps40
    go_upto_region 1 with fail
    rw [← hW1]
    clear hW1
    go_upto_region 7 with (first | (go_at_call 84;refine CP.mono ?_;rintro e w2 ⟨rfl,k2⟩;obtain ⟨c0,c1,c2⟩:=BX.out w2 k2))
    obtain ⟨⟨r0,r1,r2,r3⟩,f0,f1,f2,f3⟩:=RC.out w2 k2
    have d0:=HRD.out w2 k2
    go_wp2
    obtain ⟨⟨g0,g1,g2,g3⟩,kk,ks⟩:=PUT.out w2 (.int .i64 1) (.int .i64 z) (.slice none 0 0) (.slice none 0 0) k2
    exact bodyPost_ret (v:=.agg #[.int .i64 1,.int .i64 z,.slice none 0 0,.slice none 0 0]) (by simp [results,Tryz.results40,go_sem,g0,g1,g2,g3]) rfl ⟨_,rfl,leaf_co _ _ _ _ _,ks⟩
   ·rw [growF_fork hR0 (by rw [← HN.out];exact h1) hp]
    have hb1:((N:Int) == 1)=false:=by simp;omega
    clear h HH CPP CBB HN hN hR0 hp hz h0 HRC HR0 h1
    generalize (R.headD (0,[],[])).1=z at *
    go_enter Tryz.func40,Tryz.ntmps40
    go_upto_region 1 with fail
    rw [← hW1]
    clear hW1
    go_upto_region 8 with (first | (go_at_call 84;refine CP.mono ?_;rintro e w2 ⟨rfl,k2⟩;obtain ⟨c0,c1,c2⟩:=BX.out w2 k2))
    have d0:=HRD.out w2 k2
    go_wp2
    exact ⟨rfl,⟨_,rfl,heap_alloc_new w2 _⟩,Kept.alloc (KW.trans' k2) _⟩
theorem otgrow_any (L:List Sym):∀ n,GrowIHO L n
 | 0=>fun w bs po pc P ro rc R h=>absurd h.ok.pos (Nat.lt_irrefl 0)
 | n+1=>ogrow_step (otgrow_any L n)
def OBldPost (L:List Sym) (R:List Ru) (n:Int) (w:World) (e:Ending) (w' : World):Prop:=
 Same0 w w' ∧ if defB L n=true then
  (match treeF L R n.toNat with
  | .ok t=>∃ v,e=.returned (.tuple #[v,.nilIface])∧CsO (fun b=>w.heap.size≤b) w' 2001 v t
  | .error z=>∃ v,e=.returned (.tuple #[zeroC,v])∧FltAt w' [(81,n),(82,z)] v)
 else ∃ v,e=.returned (.tuple #[zeroC,v])∧FltAt w' [(80,0)] v
set_option maxHeartbeats 16000000 in
theorem obuild_any {w:World} {b bs:Nat} {L:List Sym} {R:List Ru} {lv:Value} {vs:List Value} (h:StAt w b bs L R lv vs) (n:Int) :
  Calls Tryz.prog 8 #[.pointer (some ⟨b,0,none⟩),.int .i64 n] w (OBldPost L R n w):=by
 have hpn:=ptr_nil
 have hle:=h.le
 have hok:=h.ok
 obtain ⟨W1,hW1⟩:∃ W1,W1=((w.alloc (.cells #[.int .i64 n] 3)).alloc zeroCs).alloc (.cells #[.nilIface] 37):=⟨_,rfl⟩
 have KW:Same0 w W1:=by rw [hW1];exact (((Kept.refl _ w).alloc _).alloc _).alloc _
 have ez:W1.heap.size=w.heap.size+1+1+1:=by rw [hW1];simp
 have BK:Hid (∀ ww,Same0 W1 ww→ww.heap[w.heap.size]? = some (.cells #[.int .i64 n] 3 (0,0))∧ww.heap[w.heap.size+1]? = some (.cells #[.int .i64 0,.int .i64 0,.slice none 0 0,.slice none 0 0] 35 (0,0))∧ww.heap[w.heap.size+1+1]? = some (.cells #[.nilIface] 37 (0,0))):=fun ww hk=>by
  have k1:Same0 (w.alloc (.cells #[.int .i64 n] 3)) W1:=by rw [hW1];exact ((Kept.refl _ _).alloc _).alloc _
  have k2:Same0 ((w.alloc (.cells #[.int .i64 n] 3)).alloc zeroCs) W1:=by rw [hW1];exact (Kept.refl _ _).alloc _
  have h3:=heap_al_al (w.alloc (.cells #[.int .i64 n] 3)) zeroCs (.cells #[.nilIface] 37)
  rw [World.size_alloc] at h3
  exact ⟨hk.at0 (k1.at0 (heap_alloc_new w _)),hk.at0 (k2.at0 (heap_al_al _ _ _)),hk.at0 (by rw [hW1];exact h3)⟩
 have RC:Hid (∀ ww,Same0 W1 ww→ww.cell? ⟨w.heap.size,0,none⟩=some (.int .i64 n)∧(ww.cell? ⟨w.heap.size+1,0,none⟩=some (.int .i64 0)∧ww.cell? ⟨w.heap.size+1,1,none⟩=some (.int .i64 0)∧ww.cell? ⟨w.heap.size+1,2,none⟩=some (.slice none 0 0)∧ww.cell? ⟨w.heap.size+1,3,none⟩=some (.slice none 0 0))∧(ww.frozen? ⟨w.heap.size+1,0,none⟩=false∧ww.frozen? ⟨w.heap.size+1,1,none⟩=false∧ww.frozen? ⟨w.heap.size+1,2,none⟩=false∧ww.frozen? ⟨w.heap.size+1,3,none⟩=false)∧ww.cell? ⟨w.heap.size+1+1,0,none⟩=some .nilIface∧ww.frozen? ⟨w.heap.size+1+1,0,none⟩=false):=fun ww hk=>by
  obtain ⟨h1,h2,h3⟩:=BK.out ww hk
  exact ⟨cellAt h1 0,⟨cellAt h2 0,cellAt h2 1,cellAt h2 2,cellAt h2 3⟩,⟨frozenAt h2 0,frozenAt h2 1,frozenAt h2 2,frozenAt h2 3⟩,cellAt h3 0,frozenAt h3 0⟩
 have CS:Hid (∀ ww,Same0 w ww→Calls Tryz.prog 35 #[.pointer (some ⟨b,0,none⟩)] ww fun e w' => ∃ bt,e=.returned (.pointer (some ⟨bt,0,none⟩))∧Hid (Sg w'.heap.size w' bt L)∧Same0 ww w'):=fun ww hk=>by
  refine (ssig_any (h.same hk)).mono ?_
  rintro e w' ⟨bt,rfl,hb,sv,mr,h1,h2,h3⟩
  exact ⟨bt,rfl,⟨⟨sv,mr,h1,fun k hk=>sig_foot_lt h1 k hk⟩,h.sig.2⟩,h3⟩
 have HST:Hid (∀ ww,Same0 w ww→StAt ww b bs L R lv vs):=fun ww hk=>h.same hk
 have PUT:Hid (∀ ww x0 x1 x2 x3 y,Same0 W1 ww→((((((ww.setCell ⟨w.heap.size+1,0,none⟩ x0).setCell ⟨w.heap.size+1,1,none⟩ x1).setCell ⟨w.heap.size+1,2,none⟩ x2).setCell ⟨w.heap.size+1,3,none⟩ x3).setCell ⟨w.heap.size+1+1,0,none⟩ y)).cell? ⟨w.heap.size+1,0,none⟩=some x0∧((((((ww.setCell ⟨w.heap.size+1,0,none⟩ x0).setCell ⟨w.heap.size+1,1,none⟩ x1).setCell ⟨w.heap.size+1,2,none⟩ x2).setCell ⟨w.heap.size+1,3,none⟩ x3).setCell ⟨w.heap.size+1+1,0,none⟩ y)).cell? ⟨w.heap.size+1,1,none⟩=some x1∧((((((ww.setCell ⟨w.heap.size+1,0,none⟩ x0).setCell ⟨w.heap.size+1,1,none⟩ x1).setCell ⟨w.heap.size+1,2,none⟩ x2).setCell ⟨w.heap.size+1,3,none⟩ x3).setCell ⟨w.heap.size+1+1,0,none⟩ y)).cell? ⟨w.heap.size+1,2,none⟩=some x2∧((((((ww.setCell ⟨w.heap.size+1,0,none⟩ x0).setCell ⟨w.heap.size+1,1,none⟩ x1).setCell ⟨w.heap.size+1,2,none⟩ x2).setCell ⟨w.heap.size+1,3,none⟩ x3).setCell ⟨w.heap.size+1+1,0,none⟩ y)).cell? ⟨w.heap.size+1,3,none⟩=some x3∧((((((ww.setCell ⟨w.heap.size+1,0,none⟩ x0).setCell ⟨w.heap.size+1,1,none⟩ x1).setCell ⟨w.heap.size+1,2,none⟩ x2).setCell ⟨w.heap.size+1,3,none⟩ x3).setCell ⟨w.heap.size+1+1,0,none⟩ y)).cell? ⟨w.heap.size+1+1,0,none⟩=some y∧Kept (fun q=>q=w.heap.size+1∨q=w.heap.size+1+1) ww ((((((ww.setCell ⟨w.heap.size+1,0,none⟩ x0).setCell ⟨w.heap.size+1,1,none⟩ x1).setCell ⟨w.heap.size+1,2,none⟩ x2).setCell ⟨w.heap.size+1,3,none⟩ x3).setCell ⟨w.heap.size+1+1,0,none⟩ y))∧Same0 w ((((((ww.setCell ⟨w.heap.size+1,0,none⟩ x0).setCell ⟨w.heap.size+1,1,none⟩ x1).setCell ⟨w.heap.size+1,2,none⟩ x2).setCell ⟨w.heap.size+1,3,none⟩ x3).setCell ⟨w.heap.size+1+1,0,none⟩ y))):=by
  intro ww x0 x1 x2 x3 y hk
  obtain ⟨h1,h2,h3⟩:=BK.out ww hk
  have s3:=setAt (setAt (setAt (setAt h2 0 x0) 1 x1) 2 x2) 3 x3
  have k1:=Kept.setCell (p:=⟨w.heap.size+1,0,none⟩) (Kept.refl (fun q=>q=w.heap.size+1) ww) (fun _=>rfl) x0
  have k2:=Kept.setCell (p:=⟨w.heap.size+1,1,none⟩) k1 (fun _=>rfl) x1
  have k3:=Kept.setCell (p:=⟨w.heap.size+1,2,none⟩) k2 (fun _=>rfl) x2
  have k4:=Kept.setCell (p:=⟨w.heap.size+1,3,none⟩) k3 (fun _=>rfl) x3
  have h3' := k4.at h3 (fun e=>by omega)
  have s4:=setAt h3' 0 y
  have k5:=Kept.setCell (p:=⟨w.heap.size+1+1,0,none⟩) (Kept.refl (fun q=>q=w.heap.size+1+1) ((((ww.setCell ⟨w.heap.size+1,0,none⟩ x0).setCell ⟨w.heap.size+1,1,none⟩ x1).setCell ⟨w.heap.size+1,2,none⟩ x2).setCell ⟨w.heap.size+1,3,none⟩ x3)) (fun _=>rfl) y
  have s3' := k5.at s3 (fun e=>by omega)
  have kk:Kept (fun q=>q=w.heap.size+1∨q=w.heap.size+1+1) ww ((((((ww.setCell ⟨w.heap.size+1,0,none⟩ x0).setCell ⟨w.heap.size+1,1,none⟩ x1).setCell ⟨w.heap.size+1,2,none⟩ x2).setCell ⟨w.heap.size+1,3,none⟩ x3).setCell ⟨w.heap.size+1+1,0,none⟩ y)):=Kept.trans (k4.mono (fun _ _ e=>.inl e)) k5 (fun _ _ e=>.inr e)
  exact ⟨cellAt s3' 0,cellAt s3' 1,cellAt s3' 2,cellAt s3' 3,cellAt s4 0,kk,Kept.trans (KW.trans' hk) kk (fun i hi e=>by omega)⟩
 clear h
 have C1:=CS.out W1 KW
 cases hd:defB L n with
 | false=>
  have FIN:Hid (∀ ww v,Same0 w ww→FltAt ww [(80,0)] v→OBldPost L R n w (.returned (.tuple #[zeroC,v])) ww):=fun ww v hk hf=>⟨hk,by rw [hd];exact ⟨v,rfl,hf⟩⟩
  have CD:Hid (∀ ww bt,Same0 W1 ww→Sg ww.heap.size ww bt L→Calls Tryz.prog 36 #[.pointer (some ⟨bt,0,none⟩),.int .i64 n] ww fun e w' => e=.returned (.bool false)∧Same0 ww w'):=fun ww bt hk hs=>by rw [← hd];exact tdef_any hs n
  clear hd
  go_enter Tryz.func8,Tryz.ntmps8
  go_upto_region 1 with fail
  rw [← hW1]
  clear hW1
  go_upto_region 4 with (first | (go_at_call 35;refine C1.mono ?_;rintro e w2 ⟨bt,rfl,hs2,k2⟩))
  obtain ⟨r0,_⟩:=RC.out w2 k2
  have C2:=CD.out w2 bt k2 hs2.out
  go_upto_region 5 with (first | (go_at_call 36;refine C2.mono ?_;rintro e w3 ⟨rfl,k3⟩))
  have k13:=k2.trans' k3
  have ka:Same0 W1 (w3.alloc (.cells #[.int .i64 80,.int .i64 0,.nilIface] 100)):=Kept.alloc k13 _
  obtain ⟨_,⟨q0,q1,q2,q3⟩,⟨f0,f1,f2,f3⟩,q4,f4⟩:=RC.out _ ka
  have PP:=PUT.out _ (.int .i64 0) (.int .i64 0) (.slice none 0 0) (.slice none 0 0) (.iface 98 (.pointer (some ⟨w3.heap.size,0,none⟩))) ka
  have PH:Hid _:=PP
  clear PP
  go_wp2_with fail
  obtain ⟨g0,g1,g2,g3,g4,kk,ks⟩:=PH.out
  have hf:=kk.at (heap_alloc_new w3 _) (fun e=>by have:=k13.size;omega)
  exact bodyPost_ret (v:=.tuple #[zeroC,.iface 98 (.pointer (some ⟨w3.heap.size,0,none⟩))]) (by simp [results,Tryz.results8,go_sem,g0,g1,g2,g3,g4]) rfl (FIN.out _ _ ks (.inr ⟨by omega,_,_,rfl,hf,rfl⟩))
 | true=>
  obtain ⟨s,hs,rfl⟩:∃ s:Nat,s<L.length∧n=(s:Int):=by
   by_cases hx:n<0∨(L.length:Int)≤n
   ·rw [defB_no hx] at hd;cases hd
   ·exact ⟨n.toNat,by omega,by omega⟩
  have CD:Hid (∀ ww bt,Same0 W1 ww→Sg ww.heap.size ww bt L→Calls Tryz.prog 36 #[.pointer (some ⟨bt,0,none⟩),.int .i64 (s:Int)] ww fun e w' => e=.returned (.bool true)∧Same0 ww w'):=fun ww bt hk hs=>by rw [← hd];exact tdef_any hs _
  have CR:Hid (∀ ww bt,Same0 W1 ww→Sg ww.heap.size ww bt L→Calls Tryz.prog 39 #[.pointer (some ⟨bt,0,none⟩),.pointer (some ⟨b,0,none⟩),.int .i64 (s:Int)] ww fun e w' => ∃ po pc ro rc,e=.returned (.agg #[.pointer (some ⟨bt,0,none⟩),.slice po (rootP L s).length pc,.slice ro (rootR L R s).length rc])∧Hid (NdIn w' L 2001 bt po pc (rootP L s) ro (rootR L R s))∧Same0 ww w'):=fun ww bt hk hg=>rootOf_any hg (HST.out ww (KW.trans' hk)) hs
  have CG:Hid (∀ ww bt po pc ro rc,NdIn ww L 2001 bt po pc (rootP L s) ro (rootR L R s)→Calls Tryz.prog 40 #[.agg #[.pointer (some ⟨bt,0,none⟩),.slice po (rootP L s).length pc,.slice ro (rootR L R s).length rc]] ww (TreeOutO ww (treeF L R s))):=fun ww bt po pc ro rc hi=>otgrow_any L 2001 ww bt po pc _ ro rc _ hi
  cases ht:treeF L R s with
  | ok t=>
   rw [ht] at CG
   have CG2:Hid (∀ ww bt po pc ro rc,NdIn ww L 2001 bt po pc (rootP L s) ro (rootR L R s)→Calls Tryz.prog 40 #[.agg #[.pointer (some ⟨bt,0,none⟩),.slice po (rootP L s).length pc,.slice ro (rootR L R s).length rc]] ww fun e w' => ∃ tk tr tpo tpl tpc tko tkl tkc,e=.returned (.agg #[.int .i64 tk,.int .i64 tr,.slice tpo tpl tpc,.slice tko tkl tkc])∧Hid (CsO (fun b=>ww.heap.size≤b) w' 2001 (.agg #[.int .i64 tk,.int .i64 tr,.slice tpo tpl tpc,.slice tko tkl tkc]) t)∧Same0 ww w'):=fun ww bt po pc ro rc hi=>by
    refine (CG.out ww bt po pc ro rc hi).mono ?_
    rintro e w' ⟨v,rfl,h1,h2⟩
    obtain ⟨tk,tr,tpo,tpl,tpc,tko,tkl,tkc,rfl⟩:=h1.shape
    exact ⟨tk,tr,tpo,tpl,tpc,tko,tkl,tkc,rfl,h1,h2⟩
   have FIN:Hid (∀ ww v,Same0 w ww→CsO (fun b=>w.heap.size≤b) ww 2001 v t→OBldPost L R (s:Int) w (.returned (.tuple #[v,.nilIface])) ww):=fun ww v hk hf=>⟨hk,by rw [if_pos hd];simp only [Int.toNat_natCast];rw [ht];exact ⟨v,rfl,hf⟩⟩
   clear hd CG ht
   go_enter_defers Tryz.func8,Tryz.ntmps8
   go_upto_region 1 with fail
   rw [← hW1]
   clear hW1
   go_upto_region 4 with (first | (go_at_call 35;refine C1.mono ?_;rintro e w2 ⟨bt,rfl,hs2,k2⟩))
   obtain ⟨r0,_⟩:=RC.out w2 k2
   have C2:=CD.out w2 bt k2 hs2.out
   go_upto_region 7 with (first | (go_at_call 36;refine C2.mono ?_;rintro e w3 ⟨rfl,k3⟩))
   have k13:=k2.trans' k3
   obtain ⟨r3,_⟩:=RC.out w3 k13
   have C3:=CR.out w3 bt k13 (sg_up (hs2.out.same k3) k3.size)
   go_wp2_with (first
    | (go_at_call 39;refine C3.mono ?_;rintro e w4 ⟨po,pc,ro,rc,rfl,hi,k4⟩;have C4:=CG2.out w4 bt po pc ro rc hi.out)
    | (go_at_call 40;refine C4.mono ?_;rintro e w5 ⟨tk,tr,tpo,tpl,tpc,tko,tkl,tkc,rfl,hcs,k5⟩;have k15:=(k13.trans' k4).trans' k5;obtain ⟨_,⟨q0,q1,q2,q3⟩,⟨f0,f1,f2,f3⟩,q4,f4⟩:=RC.out _ k15))
   have PH:Hid _:=PUT.out w5 (.int .i64 tk) (.int .i64 tr) (.slice tpo tpl tpc) (.slice tko tkl tkc) .nilIface k15
   refine leaves_cons (f:=37) (args:=#[.pointer (some ⟨w.heap.size,0,none⟩),.pointer (some ⟨w.heap.size+1+1,0,none⟩)]) (by simp) (by simp [go_sem]) ?_
   refine (catch_none _).mono ?_
   rintro e u' w'' ⟨rfl,rfl,rfl⟩
   obtain ⟨g0,g1,g2,g3,g4,kk,ks⟩:=PH.out
   have z4:=(k13.trans' k4).size
   simp [Leaves,settle,results,Tryz.results8,go_sem,g0,g1,g2,g3,g4]
   exact FIN.out _ _ ks (CsO.mono (fun b hb q=>by have:w4.heap.size≤b:=q;omega) (CsO.kept kk (fun b q e=>by have:w4.heap.size≤b:=q;omega) hcs.out))
  | error z=>
   rw [ht] at CG
   have hz:0≤z:=by
    refine growF_err (fun x hx=>?_) ht
    obtain ⟨y,hy,rfl⟩:=List.mem_map.1 hx
    obtain ⟨j,hj,rfl,_⟩:=rows_fact hok hy
    show (0:Int)≤(j:Int)
    omega
   have CG2:Hid (∀ ww bt po pc ro rc,NdIn ww L 2001 bt po pc (rootP L s) ro (rootR L R s)→Calls Tryz.prog 40 #[.agg #[.pointer (some ⟨bt,0,none⟩),.slice po (rootP L s).length pc,.slice ro (rootR L R s).length rc]] ww fun e w' => ∃ k,e=.panicked [{ v:=.iface 98 (.pointer (some ⟨k,0,none⟩)),recovered:=false }]∧Hid (w'.heap[k]? = some (.cells #[.int .i64 82,.int .i64 z,.nilIface] 100 (0,0)))∧Same0 ww w'):=fun ww bt po pc ro rc hi=>by
    refine (CG.out ww bt po pc ro rc hi).mono ?_
    rintro e w' ⟨⟨k,h1,h2⟩,h3⟩
    exact ⟨k,h1,h2,h3⟩
   have FIN:Hid (∀ ww v,Same0 w ww→FltAt ww [(81,(s:Int)),(82,z)] v→OBldPost L R (s:Int) w (.returned (.tuple #[zeroC,v])) ww):=fun ww v hk hf=>⟨hk,by rw [if_pos hd];simp only [Int.toNat_natCast];rw [ht];exact ⟨v,rfl,hf⟩⟩
   clear hd CG ht
   go_enter_defers Tryz.func8,Tryz.ntmps8
   go_upto_region 1 with fail
   rw [← hW1]
   clear hW1
   go_upto_region 4 with (first | (go_at_call 35;refine C1.mono ?_;rintro e w2 ⟨bt,rfl,hs2,k2⟩))
   obtain ⟨r0,_⟩:=RC.out w2 k2
   have C2:=CD.out w2 bt k2 hs2.out
   go_upto_region 7 with (first | (go_at_call 36;refine C2.mono ?_;rintro e w3 ⟨rfl,k3⟩))
   have k13:=k2.trans' k3
   obtain ⟨r3,_⟩:=RC.out w3 k13
   have C3:=CR.out w3 bt k13 (sg_up (hs2.out.same k3) k3.size)
   go_wp2_with (first
    | (go_at_call 39;refine C3.mono ?_;rintro e w4 ⟨po,pc,ro,rc,rfl,hi,k4⟩;have C4:=CG2.out w4 bt po pc ro rc hi.out)
    | (go_at_call 40;refine C4.mono ?_;rintro e w5 ⟨k,rfl,hk,k5⟩))
   have k15:=(k13.trans' k4).trans' k5
   obtain ⟨x0,⟨q0,q1,q2,q3⟩,⟨f0,f1,f2,f3⟩,q4,f4⟩:=RC.out _ k15
   obtain ⟨b1,b2,b3⟩:=BK.out w5 k15
   refine leaves_cons (f:=37) (args:=#[.pointer (some ⟨w.heap.size,0,none⟩),.pointer (some ⟨w.heap.size+1+1,0,none⟩)]) (by simp) (by simp [go_sem]) ?_
   refine (catch_fork k w5 x0 b3 (by omega)).mono ?_
   rintro e u' w6 ⟨rfl,rfl,q,h1,h2,k6⟩
   have b2' := k6.at b2 (fun e=>by omega)
   have g0:=cellAt b2' 0
   have g1:=cellAt b2' 1
   have g2:=cellAt b2' 2
   have g3:=cellAt b2' 3
   have g4:=cellAt h2 0
   simp only [List.getElem?_toArray,List.getElem?_cons_zero,List.getElem?_cons_succ] at g0 g1 g2 g3 g4
   have hk6:=k6.at hk.out (fun e=>by subst e;have:=hk.out;rw [b3] at this;cases this)
   have ks:Same0 w w6:=Kept.trans (KW.trans' k15) k6 (fun i hi e=>by omega)
   simp [Leaves,settle,results,Tryz.results8,go_sem,g0,g1,g2,g3,g4]
   exact FIN.out _ _ ks (.inr ⟨by omega,q,_,rfl,h1,.inr ⟨by omega,k,_,rfl,hk6,rfl⟩⟩)
end Go.Proofs.YtoajbpmgoklflaaGreat
