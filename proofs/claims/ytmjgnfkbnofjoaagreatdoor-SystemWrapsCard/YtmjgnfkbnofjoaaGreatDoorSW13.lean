import Derived.Test.YtmjgnfkbnofjoaaGreatDoorSW12
import Derived.Test.YtmjgnfkbnofjoaaGreatDoorSW11
import Derived.SizedLaws
namespace Go.Proofs.YtmjgnfkbnofjoaaGreatDoor
set_option maxRecDepth 100000
set_option linter.unusedVariables false
open Go.RowKit
attribute [local go_sem ↓] Go.wp_at_zero Go.wp_at_succ
def KidsF (L:List Sym) (n:Nat) (P:List (List Int)) (R:List Rw) (c k:Nat):Except Int (List (Int × Tr n)):=
 kidsN (fun s=>decide (0<(havR R c (s:Int)).length)) (fun s=>growF L n (kidP L P c s) ((havR R c (s:Int)).map (kidX L c))) k
theorem KidsF_len {L:List Sym} {n:Nat} {P:List (List Int)} {R:List Rw} {c:Nat}:∀ {k:Nat} {l:List (Int × Tr n)},KidsF L n P R c k=.ok l→l.length≤k
 | 0,l,h=>by cases h;simp
 | k+1,l,h=>by
  unfold KidsF kidsN at h
  cases hk:KidsF L n P R c k with
  | error e=>unfold KidsF at hk;rw [hk] at h;cases h
  | ok m=>
   have hm:=KidsF_len hk
   unfold KidsF at hk
   rw [hk] at h
   simp only at h
   split at h
   ·split at h
    ·cases h
    ·cases h;simp;omega
   ·cases h;omega
def BrF (L:List Sym) (n:Nat) (P:List (List Int)) (R:List Rw) (c:Nat):Except Int (Tr (n+1)):=
 match KidsF L n P R c L.length with
 | .error e=>.error e
 | .ok l=>.ok (2,0,P.getD c [],l)
theorem KidsF_err {L : List Sym} {n : Nat} {P : List (List Int)} {R : List Rw} {c : Nat} {z : Int} : ∀ {k m : Nat}, KidsF L n P R c k = .error z → k ≤ m → KidsF L n P R c m = .error z
  | k, 0, h, hm => by obtain rfl : k = 0 := by omega
                      exact h
  | k, m + 1, h, hm => by
    by_cases e : k = m + 1
    · subst e; exact h
    · have := KidsF_err h (show k ≤ m by omega)
      unfold KidsF at this ⊢
      unfold kidsN
      rw [this]
abbrev zeroCs:Obj:=.cells #[.int .i64 0,.int .i64 0,.slice none 0 0,.slice none 0 0] 63
set_option maxHeartbeats 16000000 in
theorem branch_any {L:List Sym} {n:Nat} (IH:GrowIH L n) {w:World} {bs:Nat} {po:Option Addr} {pc:Nat} {P:List (List Int)} {ro:Option Addr} {rc:Nat} {R:List Rw} (h:NdIn w L (n+1) bs po pc P ro R) {c:Nat} (hc:c<P.length) :
  Calls Tryz.prog 133 #[.agg #[.pointer (some ⟨bs,0,none⟩),.slice po P.length pc,.slice ro R.length rc],.int .i64 (c:Int)] w (TreeOut w (BrF L n P R c)):=by
 have hle:=h.ok.le
 have hfew:=h.ok.few
 have hpl:=h.ok.len _ (List.getElem_mem hc)
 have hL64:L.length≤64:=by obtain ⟨⟨sv,mr,hs,_⟩,_⟩:=h.sig;exact hs.len
 obtain ⟨W1,hW1⟩:∃ W1,W1=(w.alloc (.cells #[.pointer (some ⟨bs,0,none⟩),.slice po P.length pc,.slice ro R.length rc] 181)).alloc zeroCs:=⟨_,rfl⟩
 have KW:Same0 w W1:=by rw [hW1];exact ((Kept.refl _ w).alloc _).alloc _
 have HH:Hid (∀ ww,Same0 W1 ww→NdIn ww L (n+1) bs po pc P ro R):=fun ww hk=>h.same (KW.trans' hk)
 have BX:Hid (∀ ww,Same0 W1 ww→ww.cell? ⟨w.heap.size,0,none⟩=some (.pointer (some ⟨bs,0,none⟩))∧ww.cell? ⟨w.heap.size,1,none⟩=some (.slice po P.length pc)∧ww.cell? ⟨w.heap.size,2,none⟩=some (.slice ro R.length rc)):=fun ww hk=>by
  have hb:W1.heap[w.heap.size]? = some (.cells #[.pointer (some ⟨bs,0,none⟩),.slice po P.length pc,.slice ro R.length rc] 181 (0,0)):=by rw [hW1];exact heap_alloc2_old _ _ _
  exact ⟨cellAt (hk.at0 hb) 0,cellAt (hk.at0 hb) 1,cellAt (hk.at0 hb) 2⟩
 have RS:Hid (∀ ww,Same0 W1 ww→ww.heap[w.heap.size+1]? = some (.cells #[.int .i64 0,.int .i64 0,.slice none 0 0,.slice none 0 0] 63 (0,0))):=fun ww hk=>hk.at0 (by rw [hW1];exact heap_al_al _ _ _)
 obtain ⟨pb,poff,ao,ac,rfl,hpb,hcell,hArg⟩:=h.ps.get hc
 have PC:=(KW.cell (p:=⟨pb,poff+c,none⟩) hpb (fun f=>f)).trans hcell
 have CL:=cloneI_any (hArg.1.same KW)
 have ez:w.heap.size+1<W1.heap.size:=by rw [hW1];simp
 have i1:(0:Int)≤(c:Int):=by omega
 have i2:(c:Int)<(P.length:Int):=by omega
 have CN:Hid (∀ ww,Same0 W1 ww→Calls Tryz.prog 17 #[.pointer (some ⟨bs,0,none⟩)] ww fun e w' => e=.returned (.int .i64 (L.length:Int))∧w' = ww):=fun ww hk=>sg_len (HH.out ww hk).sig
 have HLP:Hid (P.getD c []=P[c]):=getD_lt hc []
 clear h hArg hcell
 obtain ⟨b0,b1,b2⟩:=BX.out W1 (Kept.refl _ _)
 go_enter Tryz.func133,Tryz.ntmps133
 go_upto_region 1 with fail
 rw [← hW1]
 clear hW1
 go_upto_region 2 with (first | (go_at_call 177;refine CL.mono ?_;rintro e w2 ⟨v2,rfl,hrow,hk2⟩;obtain ⟨qo,qc,rfl,a2,q2⟩:=hrow.arg (by omega)))
 have K2:Same0 W1 w2:=hk2
 obtain ⟨kb,hkb⟩:∃ kb,kb=w2.heap.size:=⟨_,rfl⟩
 have HQ:Hid (∀ ww,Same0 w2 ww→Arg ww qo P[c] qc):=fun ww hk=>a2.1.same hk
 have HQB:Hid (∀ a,qo=some a→W1.heap.size≤a.block):=q2
 have hN0:Hid ((w2.alloc (.cells #[.int .i64 2,.int .i64 0,.slice qo P[c].length qc,.slice none 0 0] 63)).heap[kb]? = some (.cells #[.int .i64 2,.int .i64 0,.slice qo P[c].length qc,.slice none 0 0] 63 (0,0))):=by rw [hkb];exact heap_alloc_new w2 _
 have K3:Same0 w2 (w2.alloc (.cells #[.int .i64 2,.int .i64 0,.slice qo P[c].length qc,.slice none 0 0] 63)):=(Kept.refl _ _).alloc _
 have hkW:W1.heap.size≤kb:=by rw [hkb];exact K2.size
 have HKB:Hid (kb=w2.heap.size):=hkb
 rw [← hkb]
 have hz3:(w2.alloc (.cells #[.int .i64 2,.int .i64 0,.slice qo P[c].length qc,.slice none 0 0] 63)).heap.size=kb+1:=by rw [hkb];simp
 have HZ3:Hid ((w2.alloc (.cells #[.int .i64 2,.int .i64 0,.slice qo P[c].length qc,.slice none 0 0] 63)).heap.size=kb+1):=hz3
 obtain ⟨b3,_,_⟩:=BX.out _ (K2.trans' K3)
 have CN3:=CN.out _ (K2.trans' K3)
 clear hrow a2 q2 CL PC b0 b1 b2 hkb hk2 hz3
 go_wp2_with (first | (go_at_call 17;refine CN3.mono ?_;rintro e w4 ⟨rfl,rfl⟩))
 clear CN3 b3
 go_loopw [18] (fun i wr=>∃ (k:Nat) (lv:Value) (us:List Value) (l:List (Int × Tr n)),k≤L.length∧i=.int .i64 (k:Int)∧Hid (KidsF L n P R c k=.ok l)∧Hid (wr.heap[kb]? = some (.cells #[.int .i64 2,.int .i64 0,.slice qo P[c].length qc,lv] 63 (0,0)))∧Hid (wr.ownsRow (kb+1) 161 5 lv l.length us)∧Hid (KCells (fun b=>kb<b∧lv.ownBlock≠some b) wr n us l)∧Same0 w2 wr) (fun i _=>L.length-(intOf i).toNat)
 case atStart=>exact ⟨0,.slice none 0 0,[],[],Nat.zero_le _,rfl,rfl,hN0,World.ownsRow_nil _ _ _ _,KCells.nil _ _ _,K3⟩
 case round=>
  clear hN0 K3 CN
  obtain ⟨k,lv,us,l,hk,rfl,hK,hN,hr,hus,hw⟩:=hrel
  obtain ⟨lo,lc,rfl⟩:=row_shape hr.out
  have hw1:Same0 W1 wr:=K2.trans' hw
  obtain ⟨b0,b1,b2⟩:=BX.out wr hw1
  have hll:=KidsF_len hK.out
  by_cases hlt:k<L.length
  ·have NI:=HH.out wr hw1
   have CH:=having_any (nv:=.nilIface) (pv:=.nilIface) (rc:=rc) (bs:=bs) (po:=some ⟨pb,poff,none⟩) (pl:=P.length) (pc:=pc) NI.rs NI.ok.rows NI.ok.le c hc (k:Int)
   have BY:Hid (∀ ww,Same0 wr ww→(ww.cell? ⟨w.heap.size,0,none⟩=some (.pointer (some ⟨bs,0,none⟩))∧ww.cell? ⟨w.heap.size,1,none⟩=some (.slice (some ⟨pb,poff,none⟩) P.length pc)∧ww.cell? ⟨w.heap.size,2,none⟩=some (.slice ro R.length rc))∧ww.cell? ⟨kb,3,none⟩=some (.slice lo l.length lc)):=fun ww hk=>⟨BX.out ww (hw1.trans' hk),cellAt (hk.at0 hN.out) 3⟩
   by_cases hhas:0<(havR R c (k:Int)).length
   ·have hgt:(0:Int)<((havR R c (k:Int)).length:Int):=by omega
    have KO:Hid (∀ w3 ho hcc,Same0 wr w3→RwAt w3 ho (havR R c (k:Int))→∀ ww,Same0 w3 ww→Calls Tryz.prog 131 #[.agg #[.pointer (some ⟨bs,0,none⟩),.slice (some ⟨pb,poff,none⟩) P.length pc,.slice ro R.length rc],.int .i64 (c:Int),.int .i64 (k:Int),.slice ho (havR R c (k:Int)).length hcc] ww fun e w' => ∃ vo vc xo xc,e=.returned (.agg #[.pointer (some ⟨bs,0,none⟩),.slice vo (kidP L P c k).length vc,.slice xo (havR R c (k:Int)).length xc])∧Hid (NdIn w' L n bs vo vc (kidP L P c k) xo ((havR R c (k:Int)).map (kidX L c)))∧Same0 ww w'):=by
     intro w3 ho hcc k3 hh ww k4
     have NI3:=(NI.same k3).same k4
     refine (kid_any (NI3.toKid hc hlt (hh.same k4))).mono ?_
     rintro e w' ⟨vo,vc,xo,xc,rfl,z1,z2,z3,z4,z5,z6⟩
     exact ⟨vo,vc,xo,xc,rfl,⟨sg_up (NI3.sig.same z6) z6.size,z1,z2,z3,z4,NI.ok.kid hc hlt (arN_le NI.sig.2 _) (fun e=>by rw [e] at hhas;simp at hhas)⟩,z6⟩
    have GO:Hid (∀ ww vo vc xo xc,NdIn ww L n bs vo vc (kidP L P c k) xo ((havR R c (k:Int)).map (kidX L c))→Calls Tryz.prog 92 #[.agg #[.pointer (some ⟨bs,0,none⟩),.slice vo (kidP L P c k).length vc,.slice xo (havR R c (k:Int)).length xc]] ww (TreeOut ww (growF L n (kidP L P c k) ((havR R c (k:Int)).map (kidX L c))))):=fun ww vo vc xo xc hi=>by
     have:=IH ww bs vo vc _ xo xc _ hi
     rw [List.length_map] at this
     exact this
    have HS:KidsF L n P R c (k+1)=(match growF L n (kidP L P c k) ((havR R c (k:Int)).map (kidX L c)) with | .error e=>.error e | .ok t=>.ok (l ++ [((k:Int),t)])):=by
     have:=hK.out
     unfold KidsF at this ⊢
     rw [kidsN,this]
     simp only [hhas,decide_true,if_true]
     cases growF L n (kidP L P c k) ((havR R c (k:Int)).map (kidX L c)) <;> rfl
    cases hg:growF L n (kidP L P c k) ((havR R c (k:Int)).map (kidX L c)) with
    | error z=>
     rw [hg] at HS
     have HE:Hid (∀ ww w' e,Same0 wr ww→Same0 ww w' → FkAt w' e z→TreeOut w (BrF L n P R c) e w'):=fun ww w' e k1 k2 hf=>by
      have:BrF L n P R c=.error z:=by unfold BrF;rw [KidsF_err HS (show k+1≤L.length by omega)]
      rw [this]
      exact ⟨hf,((KW.trans' hw1).trans' k1).trans' k2⟩
     have GE:Hid (∀ ww vo vc xo xc,NdIn ww L n bs vo vc (kidP L P c k) xo ((havR R c (k:Int)).map (kidX L c))→Calls Tryz.prog 92 #[.agg #[.pointer (some ⟨bs,0,none⟩),.slice vo (kidP L P c k).length vc,.slice xo (havR R c (k:Int)).length xc]] ww fun e w' => Hid (FkAt w' e z)∧Same0 ww w'):=fun ww vo vc xo xc hi=>by
      have:=GO.out ww vo vc xo xc hi
      rw [hg] at this
      exact this
     clear HS hg GO hK hr hus hN NI hll hhas
     go_upto_region 7 with (first | (go_at_call 188;refine CH.mono ?_;rintro e w3 ⟨ho,hcc,rfl,hh,hhn,k3⟩))
     have WD:Same0 w3 w3.drew:=(Kept.refl _ _).drew
     refine wp_region_held_drew (S:=fun w' => (w'.cell? ⟨w.heap.size,0,none⟩=some (.pointer (some ⟨bs,0,none⟩))∧w'.cell? ⟨w.heap.size,1,none⟩=some (.slice (some ⟨pb,poff,none⟩) P.length pc)∧w'.cell? ⟨w.heap.size,2,none⟩=some (.slice ro R.length rc))∧w'.cell? ⟨kb,3,none⟩=some (.slice lo l.length lc)) (by kernel_rfl) (BY.out _ (k3.trans' WD)) (fun hHeld=>?_)
     refine wpAnyH_take (i:=0) (v:=.pointer (some ⟨kb,3,none⟩)) rfl (by kernel_rfl) (by kernel_rfl) (by kernel_rfl) (fun _ _ _ h=>h) (.inl ⟨rfl,fun w' hS=>by simp [go_sem]⟩) hHeld ?_
     refine wpAnyH_take (i:=1) (v:=.slice lo l.length lc) rfl (by kernel_rfl) (by kernel_rfl) (by kernel_rfl) (fun _ _ _ h=>h) (.inl ⟨rfl,fun w' hS=>by simp [go_sem,hS.2]⟩) hHeld ?_
     refine wpAnyH_take (i:=2) (v:=.int .i64 (k:Int)) rfl (by kernel_rfl) (by kernel_rfl) (by kernel_rfl) (fun _ _ _ h=>h) (.inl ⟨rfl,fun w' hS=>by simp [go_sem]⟩) hHeld ?_
     refine wpAnyH_take (i:=3) (v:=.agg #[.pointer (some ⟨bs,0,none⟩),.slice (some ⟨pb,poff,none⟩) P.length pc,.slice ro R.length rc]) rfl (by kernel_rfl) (by kernel_rfl) (by kernel_rfl) (fun _ _ _ h=>h) (.inl ⟨rfl,fun w' hS=>by simp [go_sem,hS.1.1,hS.1.2.1,hS.1.2.2]⟩) hHeld ?_
     refine wpAnyH_take (i:=4) (v:=.int .i64 (c:Int)) rfl (by kernel_rfl) (by kernel_rfl) (by kernel_rfl) (fun _ _ _ h=>h) (.inl ⟨rfl,fun w' hS=>by simp [go_sem]⟩) hHeld ?_
     refine wpAnyH_take (i:=5) (v:=.int .i64 (k:Int)) rfl (by kernel_rfl) (by kernel_rfl) (by kernel_rfl) (fun _ _ _ h=>h) (.inl ⟨rfl,fun w' hS=>by simp [go_sem]⟩) hHeld ?_
     refine wpAnyH_take (i:=6) (v:=.slice ho (havR R c (k:Int)).length hcc) rfl (by kernel_rfl) (by kernel_rfl) (by kernel_rfl) (fun _ _ _ h=>h) (.inl ⟨rfl,fun w' hS=>by simp [go_sem]⟩) hHeld ?_
     refine wpAnyH_ready (rs:=[7]) (by kernel_rfl) (by simp) ?_
     refine AllReadyH.cons rfl (fun K hK=>?_) AllReadyH.nil
     refine step_callx rfl (KO.out w3 ho hcc k3 hh _ WD) (by simp [go_sem]) ?_
     rintro e w4 ⟨vo,vc,xo,xc,rfl,ni,k4⟩
     refine ⟨_,rfl,?_⟩
     have k14:=k3.trans' (WD.trans' k4)
     refine hK.out _ _ (BY.out _ k14) (fun hHeld=>?_)
     clear hK K
     refine wpAnyH_ready (rs:=[8]) (by kernel_rfl) (by simp) ?_
     refine AllReadyH.cons rfl (fun K hK=>?_) AllReadyH.nil
     refine step_callp rfl (GE.out w4 vo vc xo xc ni.out) (by simp [go_sem]) ?_
     rintro e w5 ⟨hf,k5⟩
     have HF:=HE.out w4 w5 e k14 k5 hf.out
     obtain ⟨b,rfl,hb⟩:=hf.out
     exact ⟨_,rfl,rfl,HF⟩
    | ok t=>
     rw [hg] at HS
     have HS' : Hid (KidsF L n P R c (k+1)=.ok (l ++ [((k:Int),t)])):=HS
     have GE:Hid (∀ ww vo vc xo xc,NdIn ww L n bs vo vc (kidP L P c k) xo ((havR R c (k:Int)).map (kidX L c))→Calls Tryz.prog 92 #[.agg #[.pointer (some ⟨bs,0,none⟩),.slice vo (kidP L P c k).length vc,.slice xo (havR R c (k:Int)).length xc]] ww fun e w' => ∃ tk tr tpo tpl tpc tko tkl tkc,e=.returned (.agg #[.int .i64 tk,.int .i64 tr,.slice tpo tpl tpc,.slice tko tkl tkc])∧Hid (CsB (fun b=>ww.heap.size≤b) w' n (.agg #[.int .i64 tk,.int .i64 tr,.slice tpo tpl tpc,.slice tko tkl tkc]) t)∧Same0 ww w'):=fun ww vo vc xo xc hi=>by
      have:=GO.out ww vo vc xo xc hi
      rw [hg] at this
      refine this.mono ?_
      rintro e w' ⟨v,rfl,h1,h2⟩
      obtain ⟨tk,tr,tpo,tpl,tpc,tko,tkl,tkc,rfl⟩:=h1.shape
      exact ⟨tk,tr,tpo,tpl,tpc,tko,tkl,tkc,rfl,h1,h2⟩
     have hz2:w2.heap.size=kb:=HKB.out.symm
     have hkr:kb<wr.heap.size:=lt_of_at hN.out
     have FIN:Hid (∀ w4 w5 c0 c1 c2 c3 g cap w11,Same0 wr w4→Same0 w4 w5→CsB (fun b=>w4.heap.size≤b) w5 n (.agg #[c0,c1,c2,c3]) t→w11.ownsRow (kb+1) 161 5 (.slice (some ⟨g,0,none⟩) (l.length+1) cap) (l.length+1) (us ++ [.int .i64 (k:Int),c0,c1,c2,c3])→Kept (fun q=>(Value.slice lo l.length lc).ownBlock=some q) w5 w11→((Value.slice lo l.length lc).ownBlock=some g∨w5.heap.size≤g)→(w11.cell? ⟨kb,3,none⟩=some (.slice lo l.length lc)∧w11.frozen? ⟨kb,3,none⟩=false)∧Hid (∃ us' l', Hid (KidsF L n P R c (k+1)=.ok l')∧Hid ((w11.setCell ⟨kb,3,none⟩ (.slice (some ⟨g,0,none⟩) (l.length+1) cap)).heap[kb]? = some (.cells #[.int .i64 2,.int .i64 0,.slice qo P[c].length qc,.slice (some ⟨g,0,none⟩) (l.length+1) cap] 63 (0,0)))∧Hid ((w11.setCell ⟨kb,3,none⟩ (.slice (some ⟨g,0,none⟩) (l.length+1) cap)).ownsRow (kb+1) 161 5 (.slice (some ⟨g,0,none⟩) (l.length+1) cap) l'.length us')∧Hid (KCells (fun b=>kb<b∧(Value.slice (some ⟨g,0,none⟩) (l.length+1) cap).ownBlock≠some b) (w11.setCell ⟨kb,3,none⟩ (.slice (some ⟨g,0,none⟩) (l.length+1) cap)) n us' l')∧Same0 w2 (w11.setCell ⟨kb,3,none⟩ (.slice (some ⟨g,0,none⟩) (l.length+1) cap)))):=by
      intro w4 w5 c0 c1 c2 c3 g cap w11 k4 k5 hcs r11 k11 hat
      have kr5:Same0 wr w5:=k4.trans' k5
      have hr5:=kr5.row hr.out (fun _ _ f=>f)
      have n5:=kr5.at0 hN.out
      have nk:¬ (Value.slice lo l.length lc).ownBlock=some kb:=fun e=>by
       obtain ⟨cu,h5⟩:=own_blk hr5 e
       rw [n5] at h5;cases h5
      have n11:=k11.at n5 nk
      have ks:Kept (fun q=>q=kb) w11 (w11.setCell ⟨kb,3,none⟩ (.slice (some ⟨g,0,none⟩) (l.length+1) cap)):=Kept.setCell (p:=⟨kb,3,none⟩) (Kept.refl (fun q=>q=kb) w11) (fun _=>rfl) _
      have z4:=k4.size
      have z5:=k5.size
      have hK1:KCells (fun b=>kb<b∧(Value.slice lo l.length lc).ownBlock≠some b∧b<w5.heap.size) w5 n us l:=by
       have:=hus.out.mono (B' := fun b=>kb<b∧(Value.slice lo l.length lc).ownBlock≠some b∧b<w5.heap.size) (fun b hb q=>⟨q.1,q.2,by omega⟩)
       exact this.kept kr5 (fun _ _ f=>f)
      have hC1:CsB (fun b=>kb<b∧(Value.slice lo l.length lc).ownBlock≠some b∧b<w5.heap.size) w5 n (.agg #[c0,c1,c2,c3]) t:=CsB.mono (fun b hb q=>⟨by omega,fun e=>by have:=(hr.out.lt b e).2;omega,hb⟩) hcs
      refine ⟨⟨cellAt n11 3,frozenAt n11 3⟩,us ++ [.int .i64 (k:Int),c0,c1,c2,c3],l ++ [((k:Int),t)],HS', setAt n11 3 _,?_,?_,?_⟩
      ·show World.ownsRow _ _ _ _ _ _ _
       rw [List.length_append]
       exact ks.row r11 (fun q e f=>by
        obtain ⟨cu,h5⟩:=own_blk r11 e
        subst f
        rw [n11] at h5;cases h5)
      ·have a1:=(hK1.snoc (s:=(k:Int)) hC1).kept k11 (fun b q e=>q.2.1 e)
       have a2:=a1.kept ks (fun b q e=>by have:=q.1;omega)
       exact a2.mono (fun b hb q=>⟨q.1,fun e=>by
        simp only [Value.ownBlock,Option.some.injEq] at e
        subst e
        rcases hat with e | e
        ·exact q.2.1 e
        ·have:=q.2.2;omega⟩)
      ·refine Kept.trans (Kept.trans (hw.trans' kr5) k11 (fun i hi e=>?_)) ks (fun i hi e=>by omega)
       have:=(hr5.lt i e).1
       omega
     have FS:Hid (∀ w5 w11 v,Same0 wr w5→Kept (fun q=>(Value.slice lo l.length lc).ownBlock=some q) w5 w11→(w11.cell? ⟨w.heap.size,0,none⟩=some (.pointer (some ⟨bs,0,none⟩))∧w11.cell? ⟨w.heap.size,1,none⟩=some (.slice (some ⟨pb,poff,none⟩) P.length pc)∧w11.cell? ⟨w.heap.size,2,none⟩=some (.slice ro R.length rc))∧(w11.setCell ⟨kb,3,none⟩ v).cell? ⟨w.heap.size,0,none⟩=some (.pointer (some ⟨bs,0,none⟩))∧(w11.setCell ⟨kb,3,none⟩ v).cell? ⟨w.heap.size,1,none⟩=some (.slice (some ⟨pb,poff,none⟩) P.length pc)∧(w11.setCell ⟨kb,3,none⟩ v).cell? ⟨w.heap.size,2,none⟩=some (.slice ro R.length rc)):=by
      intro w5 w11 v k5 k11
      have hr5:=k5.row hr.out (fun _ _ f=>f)
      have kS:Same0 W1 w11:=Kept.trans (hw1.trans' k5) k11 (fun i hi e=>by have:=(hr5.lt i e).1;omega)
      have kT:Same0 W1 (w11.setCell ⟨kb,3,none⟩ v):=Kept.setCell (p:=⟨kb,3,none⟩) kS (fun hi=>by simp at hi;omega) v
      exact ⟨BX.out _ kS,BX.out _ kT⟩
     have HRW:Hid (∀ ww,Same0 wr ww→ww.ownsRow (kb+1) 161 5 (.slice lo l.length lc) l.length us):=fun ww hk=>hk.row hr.out (fun _ _ f=>f)
     have hzz:Hid (∀ ww,Same0 wr ww→kb+1≤ww.heap.size):=fun ww hk=>by have:=hk.size;omega
     have hl1000:l.length≤1000:=by omega
     clear HS hg GO hK hr hus hN NI hll hhas hz2 hkr
     go_upto_region 7 with (first | (go_at_call 188;refine CH.mono ?_;rintro e w3 ⟨ho,hcc,rfl,hh,hhn,k3⟩))
     have WD:Same0 w3 w3.drew:=(Kept.refl _ _).drew
     have y0:w3.drew.cell? ⟨kb,3,none⟩=some (.slice lo l.length lc):=(BY.out _ (k3.trans' WD)).2
     refine wp_region_held_drew (S:=fun w' => w'.cell? ⟨w.heap.size,0,none⟩=some (.pointer (some ⟨bs,0,none⟩))∧w'.cell? ⟨w.heap.size,1,none⟩=some (.slice (some ⟨pb,poff,none⟩) P.length pc)∧w'.cell? ⟨w.heap.size,2,none⟩=some (.slice ro R.length rc)) (by kernel_rfl) (BY.out _ (k3.trans' WD)).1 (fun hHeld=>?_)
     refine wpAnyH_take (i:=0) (v:=.pointer (some ⟨kb,3,none⟩)) rfl (by kernel_rfl) (by kernel_rfl) (by kernel_rfl) (fun _ _ _ h=>h) (.inl ⟨rfl,fun w' hS=>by simp [go_sem]⟩) hHeld ?_
     refine wpAnyH_take (i:=2) (v:=.int .i64 (k:Int)) rfl (by kernel_rfl) (by kernel_rfl) (by kernel_rfl) (fun _ _ _ h=>h) (.inl ⟨rfl,fun w' hS=>by simp [go_sem]⟩) hHeld ?_
     refine wpAnyH_take (i:=3) (v:=.agg #[.pointer (some ⟨bs,0,none⟩),.slice (some ⟨pb,poff,none⟩) P.length pc,.slice ro R.length rc]) rfl (by kernel_rfl) (by kernel_rfl) (by kernel_rfl) (fun _ _ _ h=>h) (.inl ⟨rfl,fun w' hS=>by simp [go_sem,hS.1,hS.2.1,hS.2.2]⟩) hHeld ?_
     refine wpAnyH_take (i:=4) (v:=.int .i64 (c:Int)) rfl (by kernel_rfl) (by kernel_rfl) (by kernel_rfl) (fun _ _ _ h=>h) (.inl ⟨rfl,fun w' hS=>by simp [go_sem]⟩) hHeld ?_
     refine wpAnyH_take (i:=5) (v:=.int .i64 (k:Int)) rfl (by kernel_rfl) (by kernel_rfl) (by kernel_rfl) (fun _ _ _ h=>h) (.inl ⟨rfl,fun w' hS=>by simp [go_sem]⟩) hHeld ?_
     refine wpAnyH_take (i:=6) (v:=.slice ho (havR R c (k:Int)).length hcc) rfl (by kernel_rfl) (by kernel_rfl) (by kernel_rfl) (fun _ _ _ h=>h) (.inl ⟨rfl,fun w' hS=>by simp [go_sem]⟩) hHeld ?_
     refine wpAnyH_ready (rs:=[1,7]) (by kernel_rfl) (by simp) ?_
     refine AllReadyH.cons rfl (fun K hK=>?_) (AllReadyH.cons rfl (fun K hK=>?_) AllReadyH.nil)
     ·go_simp
      refine hK.out _ _ hHeld (fun hHeld=>?_)
      clear hK K
      refine wpAnyH_ready (rs:=[7]) (by kernel_rfl) (by simp) ?_
      refine AllReadyH.cons rfl (fun K hK=>?_) AllReadyH.nil
      refine step_callx rfl (KO.out w3 ho hcc k3 hh _ WD) (by simp [go_sem]) ?_
      rintro e w4 ⟨vo,vc,xo,xc,rfl,ni,k4⟩
      refine ⟨_,rfl,?_⟩
      have k14:=k3.trans' (WD.trans' k4)
      have y4:=(BY.out _ k14).2
      refine hK.out _ _ (BY.out _ k14).1 (fun hHeld=>?_)
      clear hK K
      refine wpAnyH_ready (rs:=[8]) (by kernel_rfl) (by simp) ?_
      refine AllReadyH.cons rfl (fun K hK=>?_) AllReadyH.nil
      refine step_callx rfl (GE.out w4 vo vc xo xc ni.out) (by simp [go_sem]) ?_
      rintro e w5 ⟨tk,tr,tpo,tpl,tpc,tko,tkl,tkc,rfl,hcs,k5⟩
      refine ⟨_,rfl,?_⟩
      have k15:=k14.trans' k5
      have y5:=(BY.out _ k15).2
      have y6:=(BY.out _ (k15.alloc (.cells #[.int .i64 (k:Int),.int .i64 tk,.int .i64 tr,.slice tpo tpl tpc,.slice tko tkl tkc] 161))).2
      refine hK.out _ _ (BY.out _ k15).1 (fun hHeld=>?_)
      clear hK K
      refine wpAnyH_take (i:=9) (v:=.agg #[.int .i64 (k:Int),.int .i64 tk,.int .i64 tr,.slice tpo tpl tpc,.slice tko tkl tkc]) rfl (by kernel_rfl) (by kernel_rfl) (by kernel_rfl) (fun _ _ _ h=>h) (.inl ⟨rfl,fun w' hS=>by simp [go_sem]⟩) hHeld ?_
      refine wpAnyH_ready (rs:=[10]) (by kernel_rfl) (by simp) ?_
      refine AllReadyH.cons rfl (fun K hK=>?_) AllReadyH.nil
      go_simp
      refine hK.out _ _ (BY.out _ (Kept.alloc k15 _)).1 (fun hHeld=>?_)
      clear hK K
      refine wpAnyH_ready (rs:=[11]) (by kernel_rfl) (by simp) ?_
      refine AllReadyH.cons rfl (fun K hK=>?_) AllReadyH.nil
      refine step_kid (w0:=w5) (by rfl) _ _ (by rfl) (kb+1) l.length us (.slice lo l.length lc) (by rfl) ((Kept.refl _ w5).alloc _) (HRW.out _ k15) (.int .i64 (k:Int)) (.int .i64 tk) (.int .i64 tr) (.slice tpo tpl tpc) (.slice tko tkl tkc) w5.heap.size (by rfl) (heap_alloc_new w5 _) (by rfl) (by rfl) (by rfl) (by rfl) (by rfl) (hzz.out _ k15) hl1000 ?_
      intro g cap w11 r11 k11 hat
      obtain ⟨⟨y1,y2⟩,FF⟩:=FIN.out w4 w5 _ _ _ _ g cap w11 k14 k5 hcs.out r11 k11 hat
      obtain ⟨e11,f11⟩:=FS.out w5 w11 (.slice (some ⟨g,0,none⟩) (l.length+1) cap) k15 k11
      refine hK.out _ _ e11 (fun hHeld=>?_)
      clear hK K
      refine wpAnyH_take (i:=12) (v:=.pointer (some ⟨kb,3,none⟩)) rfl (by kernel_rfl) (by kernel_rfl) (by kernel_rfl) (fun _ _ _ h=>h) (.inl ⟨rfl,fun w' hS=>by simp [go_sem]⟩) hHeld ?_
      refine wpAnyH_ready (rs:=[13]) (by kernel_rfl) (by simp) ?_
      refine AllReadyH.cons rfl (fun K hK=>?_) AllReadyH.nil
      go_simp
      refine hK.out _ _ f11 (fun hHeld=>?_)
      clear hK K
      refine wpAnyH_done (by kernel_rfl) ?_ _
      go_wp2_with fail
      obtain ⟨us', l', z1,z2,z3,z4,z5⟩:=FF.out
      exact ⟨⟨k+1,_,us', l', by omega,by go_num,z1,z2,z3,z4,z5⟩,by simp [intOf];omega⟩
     ·refine step_callx rfl (KO.out w3 ho hcc k3 hh _ WD) (by simp [go_sem]) ?_
      rintro e w4 ⟨vo,vc,xo,xc,rfl,ni,k4⟩
      refine ⟨_,rfl,?_⟩
      have k14:=k3.trans' (WD.trans' k4)
      have y4:=(BY.out _ k14).2
      refine hK.out _ _ (BY.out _ k14).1 (fun hHeld=>?_)
      clear hK K
      refine wpAnyH_ready (rs:=[1,8]) (by kernel_rfl) (by simp) ?_
      refine AllReadyH.cons rfl (fun K hK=>?_) (AllReadyH.cons rfl (fun K hK=>?_) AllReadyH.nil)
      ·go_simp
       refine hK.out _ _ hHeld (fun hHeld=>?_)
       clear hK K
       refine wpAnyH_ready (rs:=[8]) (by kernel_rfl) (by simp) ?_
       refine AllReadyH.cons rfl (fun K hK=>?_) AllReadyH.nil
       refine step_callx rfl (GE.out w4 vo vc xo xc ni.out) (by simp [go_sem]) ?_
       rintro e w5 ⟨tk,tr,tpo,tpl,tpc,tko,tkl,tkc,rfl,hcs,k5⟩
       refine ⟨_,rfl,?_⟩
       have k15:=k14.trans' k5
       have y5:=(BY.out _ k15).2
       have y6:=(BY.out _ (k15.alloc (.cells #[.int .i64 (k:Int),.int .i64 tk,.int .i64 tr,.slice tpo tpl tpc,.slice tko tkl tkc] 161))).2
       refine hK.out _ _ (BY.out _ k15).1 (fun hHeld=>?_)
       clear hK K
       refine wpAnyH_take (i:=9) (v:=.agg #[.int .i64 (k:Int),.int .i64 tk,.int .i64 tr,.slice tpo tpl tpc,.slice tko tkl tkc]) rfl (by kernel_rfl) (by kernel_rfl) (by kernel_rfl) (fun _ _ _ h=>h) (.inl ⟨rfl,fun w' hS=>by simp [go_sem]⟩) hHeld ?_
       refine wpAnyH_ready (rs:=[10]) (by kernel_rfl) (by simp) ?_
       refine AllReadyH.cons rfl (fun K hK=>?_) AllReadyH.nil
       go_simp
       refine hK.out _ _ (BY.out _ (Kept.alloc k15 _)).1 (fun hHeld=>?_)
       clear hK K
       refine wpAnyH_ready (rs:=[11]) (by kernel_rfl) (by simp) ?_
       refine AllReadyH.cons rfl (fun K hK=>?_) AllReadyH.nil
       refine step_kid (w0:=w5) (by rfl) _ _ (by rfl) (kb+1) l.length us (.slice lo l.length lc) (by rfl) ((Kept.refl _ w5).alloc _) (HRW.out _ k15) (.int .i64 (k:Int)) (.int .i64 tk) (.int .i64 tr) (.slice tpo tpl tpc) (.slice tko tkl tkc) w5.heap.size (by rfl) (heap_alloc_new w5 _) (by rfl) (by rfl) (by rfl) (by rfl) (by rfl) (hzz.out _ k15) hl1000 ?_
       intro g cap w11 r11 k11 hat
       obtain ⟨⟨y1,y2⟩,FF⟩:=FIN.out w4 w5 _ _ _ _ g cap w11 k14 k5 hcs.out r11 k11 hat
       obtain ⟨e11,f11⟩:=FS.out w5 w11 (.slice (some ⟨g,0,none⟩) (l.length+1) cap) k15 k11
       refine hK.out _ _ e11 (fun hHeld=>?_)
       clear hK K
       refine wpAnyH_take (i:=12) (v:=.pointer (some ⟨kb,3,none⟩)) rfl (by kernel_rfl) (by kernel_rfl) (by kernel_rfl) (fun _ _ _ h=>h) (.inl ⟨rfl,fun w' hS=>by simp [go_sem]⟩) hHeld ?_
       refine wpAnyH_ready (rs:=[13]) (by kernel_rfl) (by simp) ?_
       refine AllReadyH.cons rfl (fun K hK=>?_) AllReadyH.nil
       go_simp
       refine hK.out _ _ f11 (fun hHeld=>?_)
       clear hK K
       refine wpAnyH_done (by kernel_rfl) ?_ _
       go_wp2_with fail
       obtain ⟨us', l', z1,z2,z3,z4,z5⟩:=FF.out
       exact ⟨⟨k+1,_,us', l', by omega,by go_num,z1,z2,z3,z4,z5⟩,by simp [intOf];omega⟩
      ·refine step_callx rfl (GE.out w4 vo vc xo xc ni.out) (by simp [go_sem]) ?_
       rintro e w5 ⟨tk,tr,tpo,tpl,tpc,tko,tkl,tkc,rfl,hcs,k5⟩
       refine ⟨_,rfl,?_⟩
       have k15:=k14.trans' k5
       have y5:=(BY.out _ k15).2
       have y6:=(BY.out _ (k15.alloc (.cells #[.int .i64 (k:Int),.int .i64 tk,.int .i64 tr,.slice tpo tpl tpc,.slice tko tkl tkc] 161))).2
       refine hK.out _ _ (BY.out _ k15).1 (fun hHeld=>?_)
       clear hK K
       refine wpAnyH_take (i:=9) (v:=.agg #[.int .i64 (k:Int),.int .i64 tk,.int .i64 tr,.slice tpo tpl tpc,.slice tko tkl tkc]) rfl (by kernel_rfl) (by kernel_rfl) (by kernel_rfl) (fun _ _ _ h=>h) (.inl ⟨rfl,fun w' hS=>by simp [go_sem]⟩) hHeld ?_
       refine wpAnyH_ready (rs:=[1,10]) (by kernel_rfl) (by simp) ?_
       refine AllReadyH.cons rfl (fun K hK=>?_) (AllReadyH.cons rfl (fun K hK=>?_) AllReadyH.nil)
       ·go_simp
        refine hK.out _ _ hHeld (fun hHeld=>?_)
        clear hK K
        refine wpAnyH_ready (rs:=[10]) (by kernel_rfl) (by simp) ?_
        refine AllReadyH.cons rfl (fun K hK=>?_) AllReadyH.nil
        go_simp
        refine hK.out _ _ (BY.out _ (Kept.alloc k15 _)).1 (fun hHeld=>?_)
        clear hK K
        refine wpAnyH_ready (rs:=[11]) (by kernel_rfl) (by simp) ?_
        refine AllReadyH.cons rfl (fun K hK=>?_) AllReadyH.nil
        refine step_kid (w0:=w5) (by rfl) _ _ (by rfl) (kb+1) l.length us (.slice lo l.length lc) (by rfl) ((Kept.refl _ w5).alloc _) (HRW.out _ k15) (.int .i64 (k:Int)) (.int .i64 tk) (.int .i64 tr) (.slice tpo tpl tpc) (.slice tko tkl tkc) w5.heap.size (by rfl) (heap_alloc_new w5 _) (by rfl) (by rfl) (by rfl) (by rfl) (by rfl) (hzz.out _ k15) hl1000 ?_
        intro g cap w11 r11 k11 hat
        obtain ⟨⟨y1,y2⟩,FF⟩:=FIN.out w4 w5 _ _ _ _ g cap w11 k14 k5 hcs.out r11 k11 hat
        obtain ⟨e11,f11⟩:=FS.out w5 w11 (.slice (some ⟨g,0,none⟩) (l.length+1) cap) k15 k11
        refine hK.out _ _ e11 (fun hHeld=>?_)
        clear hK K
        refine wpAnyH_take (i:=12) (v:=.pointer (some ⟨kb,3,none⟩)) rfl (by kernel_rfl) (by kernel_rfl) (by kernel_rfl) (fun _ _ _ h=>h) (.inl ⟨rfl,fun w' hS=>by simp [go_sem]⟩) hHeld ?_
        refine wpAnyH_ready (rs:=[13]) (by kernel_rfl) (by simp) ?_
        refine AllReadyH.cons rfl (fun K hK=>?_) AllReadyH.nil
        go_simp
        refine hK.out _ _ f11 (fun hHeld=>?_)
        clear hK K
        refine wpAnyH_done (by kernel_rfl) ?_ _
        go_wp2_with fail
        obtain ⟨us', l', z1,z2,z3,z4,z5⟩:=FF.out
        exact ⟨⟨k+1,_,us', l', by omega,by go_num,z1,z2,z3,z4,z5⟩,by simp [intOf];omega⟩
       ·go_simp
        refine hK.out _ _ (BY.out _ (Kept.alloc k15 _)).1 (fun hHeld=>?_)
        clear hK K
        refine wpAnyH_ready (rs:=[1]) (by kernel_rfl) (by simp) ?_
        refine AllReadyH.cons rfl (fun K hK=>?_) AllReadyH.nil
        go_simp
        refine hK.out _ _ hHeld (fun hHeld=>?_)
        clear hK K
        refine wpAnyH_ready (rs:=[11]) (by kernel_rfl) (by simp) ?_
        refine AllReadyH.cons rfl (fun K hK=>?_) AllReadyH.nil
        refine step_kid (w0:=w5) (by rfl) _ _ (by rfl) (kb+1) l.length us (.slice lo l.length lc) (by rfl) ((Kept.refl _ w5).alloc _) (HRW.out _ k15) (.int .i64 (k:Int)) (.int .i64 tk) (.int .i64 tr) (.slice tpo tpl tpc) (.slice tko tkl tkc) w5.heap.size (by rfl) (heap_alloc_new w5 _) (by rfl) (by rfl) (by rfl) (by rfl) (by rfl) (hzz.out _ k15) hl1000 ?_
        intro g cap w11 r11 k11 hat
        obtain ⟨⟨y1,y2⟩,FF⟩:=FIN.out w4 w5 _ _ _ _ g cap w11 k14 k5 hcs.out r11 k11 hat
        obtain ⟨e11,f11⟩:=FS.out w5 w11 (.slice (some ⟨g,0,none⟩) (l.length+1) cap) k15 k11
        refine hK.out _ _ e11 (fun hHeld=>?_)
        clear hK K
        refine wpAnyH_take (i:=12) (v:=.pointer (some ⟨kb,3,none⟩)) rfl (by kernel_rfl) (by kernel_rfl) (by kernel_rfl) (fun _ _ _ h=>h) (.inl ⟨rfl,fun w' hS=>by simp [go_sem]⟩) hHeld ?_
        refine wpAnyH_ready (rs:=[13]) (by kernel_rfl) (by simp) ?_
        refine AllReadyH.cons rfl (fun K hK=>?_) AllReadyH.nil
        go_simp
        refine hK.out _ _ f11 (fun hHeld=>?_)
        clear hK K
        refine wpAnyH_done (by kernel_rfl) ?_ _
        go_wp2_with fail
        obtain ⟨us', l', z1,z2,z3,z4,z5⟩:=FF.out
        exact ⟨⟨k+1,_,us', l', by omega,by go_num,z1,z2,z3,z4,z5⟩,by simp [intOf];omega⟩
   ·have HS:Hid (KidsF L n P R c (k+1)=.ok l):=by
     have:=hK.out
     unfold KidsF at this
     show KidsF L n P R c (k+1)=.ok l
     unfold KidsF
     rw [kidsN,this]
     simp only [hhas,decide_false,Bool.false_eq_true,if_false]
    have hl0:(havR R c (k:Int)).length=0:=by omega
    rw [hl0] at CH
    have HK2:Hid (∀ w3,Same0 wr w3→Hid (w3.heap[kb]? = some (.cells #[.int .i64 2,.int .i64 0,.slice qo P[c].length qc,.slice lo l.length lc] 63 (0,0)))∧Hid (w3.ownsRow (kb+1) 161 5 (.slice lo l.length lc) l.length us)∧Hid (KCells (fun b=>kb<b∧(Value.slice lo l.length lc).ownBlock≠some b) w3 n us l)):=fun w3 k3=>⟨k3.at0 hN.out,k3.row hr.out (fun _ _ f=>f),hus.out.kept k3 (fun _ _ f=>f)⟩
    clear hK hN hr hus NI hhas hl0 hll
    go_wp2_with (first | (go_at_call 188;refine CH.mono ?_;rintro e w3 ⟨ho,hcc,rfl,hh,hhn,k3⟩))
    obtain ⟨z1,z2,z3⟩:=HK2.out w3 k3
    exact ⟨⟨k+1,_,us,l,by omega,by go_num,HS,z1,z2,z3,hw.trans' k3⟩,by simp [intOf];omega⟩
  ·obtain rfl:k=L.length:=by omega
   have hN' := hN.out
   have rs:=RS.out wr hw1
   have n0:=cellAt hN' 0
   have n1:=cellAt hN' 1
   have n2:=cellAt hN' 2
   have n3:=cellAt hN' 3
   have q0:=cellAt rs 0
   have q1:=cellAt rs 1
   have q2:=cellAt rs 2
   have q3:=cellAt rs 3
   have f0:=frozenAt rs 0
   have f1:=frozenAt rs 1
   have f2:=frozenAt rs 2
   have f3:=frozenAt rs 3
   simp only [List.getElem?_toArray,List.getElem?_cons_zero,List.getElem?_cons_succ] at n0 n1 n2 n3 q0 q1 q2 q3
   have s3:=setAt (setAt (setAt (setAt rs 0 (.int .i64 2)) 1 (.int .i64 0)) 2 (.slice qo P[c].length qc)) 3 (.slice lo l.length lc)
   have GG:Hid ((((((wr.setCell ⟨w.heap.size+1,0,none⟩ (.int .i64 2)).setCell ⟨w.heap.size+1,1,none⟩ (.int .i64 0)).setCell ⟨w.heap.size+1,2,none⟩ (.slice qo P[c].length qc)).setCell ⟨w.heap.size+1,3,none⟩ (.slice lo l.length lc))).cell? ⟨w.heap.size+1,0,none⟩=some (.int .i64 2)∧(((((wr.setCell ⟨w.heap.size+1,0,none⟩ (.int .i64 2)).setCell ⟨w.heap.size+1,1,none⟩ (.int .i64 0)).setCell ⟨w.heap.size+1,2,none⟩ (.slice qo P[c].length qc)).setCell ⟨w.heap.size+1,3,none⟩ (.slice lo l.length lc))).cell? ⟨w.heap.size+1,1,none⟩=some (.int .i64 0)∧(((((wr.setCell ⟨w.heap.size+1,0,none⟩ (.int .i64 2)).setCell ⟨w.heap.size+1,1,none⟩ (.int .i64 0)).setCell ⟨w.heap.size+1,2,none⟩ (.slice qo P[c].length qc)).setCell ⟨w.heap.size+1,3,none⟩ (.slice lo l.length lc))).cell? ⟨w.heap.size+1,2,none⟩=some (.slice qo P[c].length qc)∧(((((wr.setCell ⟨w.heap.size+1,0,none⟩ (.int .i64 2)).setCell ⟨w.heap.size+1,1,none⟩ (.int .i64 0)).setCell ⟨w.heap.size+1,2,none⟩ (.slice qo P[c].length qc)).setCell ⟨w.heap.size+1,3,none⟩ (.slice lo l.length lc))).cell? ⟨w.heap.size+1,3,none⟩=some (.slice lo l.length lc)):=⟨cellAt s3 0,cellAt s3 1,cellAt s3 2,cellAt s3 3⟩
   have FIN:Hid (TreeOut w (BrF L n P R c) (.returned (.agg #[.int .i64 2,.int .i64 0,.slice qo P[c].length qc,.slice lo l.length lc])) (((((wr.setCell ⟨w.heap.size+1,0,none⟩ (.int .i64 2)).setCell ⟨w.heap.size+1,1,none⟩ (.int .i64 0)).setCell ⟨w.heap.size+1,2,none⟩ (.slice qo P[c].length qc)).setCell ⟨w.heap.size+1,3,none⟩ (.slice lo l.length lc)))):=by
    have e1:BrF L n P R c=.ok (2,0,P.getD c [],l):=by unfold BrF;rw [hK.out]
    rw [e1]
    have kk:Kept (fun q=>q=w.heap.size+1) wr (((((wr.setCell ⟨w.heap.size+1,0,none⟩ (.int .i64 2)).setCell ⟨w.heap.size+1,1,none⟩ (.int .i64 0)).setCell ⟨w.heap.size+1,2,none⟩ (.slice qo P[c].length qc)).setCell ⟨w.heap.size+1,3,none⟩ (.slice lo l.length lc))):=by
     have k1:=Kept.setCell (p:=⟨w.heap.size+1,0,none⟩) (Kept.refl (fun q=>q=w.heap.size+1) wr) (fun _=>rfl) (.int .i64 2)
     have k2:=Kept.setCell (p:=⟨w.heap.size+1,1,none⟩) k1 (fun _=>rfl) (.int .i64 0)
     have k3:=Kept.setCell (p:=⟨w.heap.size+1,2,none⟩) k2 (fun _=>rfl) (.slice qo P[c].length qc)
     exact Kept.setCell (p:=⟨w.heap.size+1,3,none⟩) k3 (fun _=>rfl) (.slice lo l.length lc)
    have hcs:=branch_cs (B:=fun b=>W1.heap.size≤b) hr.out (hus.out.mono (fun b hb q=>by have:=q.1;omega)) (fun b e=>by have:=(hr.out.lt b e).1;omega) (HQ.out wr hw) HQB.out 2 0
    rw [HLP.out]
    refine ⟨_,rfl,CsB.mono (fun b hb q=>by have:=q;omega) (CsB.kept kk (fun b q e=>by have:W1.heap.size≤b:=q;omega) hcs),Kept.trans (KW.trans' hw1) kk (fun i hi e=>by omega)⟩
   clear hN hr hus hN' rs s3 hK
   go_wp2
   obtain ⟨g0,g1,g2,g3⟩:=GG.out
   exact bodyPost_ret (v:=.agg #[.int .i64 2,.int .i64 0,.slice qo P[c].length qc,.slice lo l.length lc]) (by simp [results,Tryz.results133,go_sem,g0,g1,g2,g3]) rfl FIN.out
theorem growF_zero {L:List Sym} {n:Nat} {P:List (List Int)} {R:List Rw} (h:R.length=0):growF L (n+1) P R=.ok (3,0,[],[]):=by
 rw [growF,if_pos h]
theorem growF_branch {L:List Sym} {n:Nat} {P:List (List Int)} {R:List Rw} (h:¬ R.length=0) {c:Nat} (hc:partN R P.length=some c):growF L (n+1) P R=BrF L n P R c:=by
 rw [growF,if_neg h,hc]
 unfold BrF KidsF
 rfl
theorem growF_leaf {L:List Sym} {n:Nat} {P:List (List Int)} {R:List Rw} (h1:R.length=1) (hc:partN R P.length=none):growF L (n+1) P R=.ok (1,(R.headD (0,[],[])).1,[],[]):=by
 rw [growF,if_neg (by omega),hc,if_pos h1]
theorem growF_fork {L:List Sym} {n:Nat} {P:List (List Int)} {R:List Rw} (h:¬ R.length=0) (h1:¬ R.length=1) (hc:partN R P.length=none):growF L (n+1) P R=.error (R.headD (0,[],[])).1:=by
 rw [growF,if_neg h,hc,if_neg h1]
theorem leaf_cs (B:Nat→Prop) (w:World) (n:Nat) (k r:Int):CsB B w (n+1) (.agg #[.int .i64 k,.int .i64 r,.slice none 0 0,.slice none 0 0]) (k,r,[],[]):=
 ⟨none,0,none,0,rfl,⟨.inl rfl,Nat.le_refl _,fun _=>⟨rfl,rfl⟩,by simp⟩,.inl rfl,fun _=>rfl,Nat.le_refl _,.inl rfl⟩
set_option maxHeartbeats 16000000 in
theorem grow_step {L:List Sym} {n:Nat} (IH:GrowIH L n):GrowIH L (n+1):=by
 intro w bs po pc P ro rc R h
 have hle:=h.ok.le
 have CPP:=fun ww (hk:Same0 w ww)=>parting_any (bs:=bs) (po:=po) (pc:=pc) (rc:=rc) (h.rs.same hk) h.ok.rows hle h.ok.few
 have CBB:=fun c (hc:c<P.length) ww (hk:Same0 w ww)=>branch_any IH (rc:=rc) (h.same hk) hc
 obtain ⟨N,hN⟩:∃ N,N=R.length:=⟨_,rfl⟩
 have HN:Hid (N=R.length):=hN
 rw [← hN] at CPP CBB ⊢
 obtain ⟨W1,hW1⟩:∃ W1,W1=(w.alloc (.cells #[.pointer (some ⟨bs,0,none⟩),.slice po P.length pc,.slice ro N rc] 181)).alloc zeroCs:=⟨_,rfl⟩
 have KW:Same0 w W1:=by rw [hW1];exact ((Kept.refl _ w).alloc _).alloc _
 have ez:w.heap.size+1<W1.heap.size:=by rw [hW1];simp
 have HH:Hid (∀ ww,Same0 W1 ww→NdIn ww L (n+1) bs po pc P ro R):=fun ww hk=>h.same (KW.trans' hk)
 have BX:Hid (∀ ww,Same0 W1 ww→ww.cell? ⟨w.heap.size,0,none⟩=some (.pointer (some ⟨bs,0,none⟩))∧ww.cell? ⟨w.heap.size,1,none⟩=some (.slice po P.length pc)∧ww.cell? ⟨w.heap.size,2,none⟩=some (.slice ro N rc)):=fun ww hk=>by
  have hb:W1.heap[w.heap.size]? = some (.cells #[.pointer (some ⟨bs,0,none⟩),.slice po P.length pc,.slice ro N rc] 181 (0,0)):=by rw [hW1];exact heap_alloc2_old _ _ _
  exact ⟨cellAt (hk.at0 hb) 0,cellAt (hk.at0 hb) 1,cellAt (hk.at0 hb) 2⟩
 have RS:Hid (∀ ww,Same0 W1 ww→ww.heap[w.heap.size+1]? = some (.cells #[.int .i64 0,.int .i64 0,.slice none 0 0,.slice none 0 0] 63 (0,0))):=fun ww hk=>hk.at0 (by rw [hW1];exact heap_al_al _ _ _)
 have RC:Hid (∀ ww,Same0 W1 ww→(ww.cell? ⟨w.heap.size+1,0,none⟩=some (.int .i64 0)∧ww.cell? ⟨w.heap.size+1,1,none⟩=some (.int .i64 0)∧ww.cell? ⟨w.heap.size+1,2,none⟩=some (.slice none 0 0)∧ww.cell? ⟨w.heap.size+1,3,none⟩=some (.slice none 0 0))∧ww.frozen? ⟨w.heap.size+1,0,none⟩=false∧ww.frozen? ⟨w.heap.size+1,1,none⟩=false∧ww.frozen? ⟨w.heap.size+1,2,none⟩=false∧ww.frozen? ⟨w.heap.size+1,3,none⟩=false):=fun ww hk=>by
  have rs:=RS.out ww hk
  exact ⟨⟨cellAt rs 0,cellAt rs 1,cellAt rs 2,cellAt rs 3⟩,frozenAt rs 0,frozenAt rs 1,frozenAt rs 2,frozenAt rs 3⟩
 have PUT:Hid (∀ ww x0 x1 x2 x3,Same0 W1 ww→((((((ww.setCell ⟨w.heap.size+1,0,none⟩ x0).setCell ⟨w.heap.size+1,1,none⟩ x1).setCell ⟨w.heap.size+1,2,none⟩ x2).setCell ⟨w.heap.size+1,3,none⟩ x3).cell? ⟨w.heap.size+1,0,none⟩=some x0)∧((((ww.setCell ⟨w.heap.size+1,0,none⟩ x0).setCell ⟨w.heap.size+1,1,none⟩ x1).setCell ⟨w.heap.size+1,2,none⟩ x2).setCell ⟨w.heap.size+1,3,none⟩ x3).cell? ⟨w.heap.size+1,1,none⟩=some x1∧((((ww.setCell ⟨w.heap.size+1,0,none⟩ x0).setCell ⟨w.heap.size+1,1,none⟩ x1).setCell ⟨w.heap.size+1,2,none⟩ x2).setCell ⟨w.heap.size+1,3,none⟩ x3).cell? ⟨w.heap.size+1,2,none⟩=some x2∧((((ww.setCell ⟨w.heap.size+1,0,none⟩ x0).setCell ⟨w.heap.size+1,1,none⟩ x1).setCell ⟨w.heap.size+1,2,none⟩ x2).setCell ⟨w.heap.size+1,3,none⟩ x3).cell? ⟨w.heap.size+1,3,none⟩=some x3)∧Kept (fun q=>q=w.heap.size+1) ww ((((ww.setCell ⟨w.heap.size+1,0,none⟩ x0).setCell ⟨w.heap.size+1,1,none⟩ x1).setCell ⟨w.heap.size+1,2,none⟩ x2).setCell ⟨w.heap.size+1,3,none⟩ x3)∧Same0 w ((((ww.setCell ⟨w.heap.size+1,0,none⟩ x0).setCell ⟨w.heap.size+1,1,none⟩ x1).setCell ⟨w.heap.size+1,2,none⟩ x2).setCell ⟨w.heap.size+1,3,none⟩ x3)):=by
  intro ww x0 x1 x2 x3 hk
  have rs:=RS.out ww hk
  have s3:=setAt (setAt (setAt (setAt rs 0 x0) 1 x1) 2 x2) 3 x3
  have k1:=Kept.setCell (p:=⟨w.heap.size+1,0,none⟩) (Kept.refl (fun q=>q=w.heap.size+1) ww) (fun _=>rfl) x0
  have k2:=Kept.setCell (p:=⟨w.heap.size+1,1,none⟩) k1 (fun _=>rfl) x1
  have k3:=Kept.setCell (p:=⟨w.heap.size+1,2,none⟩) k2 (fun _=>rfl) x2
  have k4:=Kept.setCell (p:=⟨w.heap.size+1,3,none⟩) k3 (fun _=>rfl) x3
  exact ⟨⟨cellAt s3 0,cellAt s3 1,cellAt s3 2,cellAt s3 3⟩,k4,Kept.trans (KW.trans' hk) k4 (fun i hi e=>by omega)⟩
 have CP:=CPP W1 KW
 obtain ⟨b0,b1,b2⟩:=BX.out W1 (Kept.refl _ _)
 have HR0:Hid (0<R.length→∃ b off,ro=some ⟨b,off,none⟩∧∀ ww,Same0 W1 ww→ww.cell? ⟨b,off,none⟩=some (.int .i64 (R.headD (0,[],[])).1)):=fun hp=>by
  obtain ⟨b,off,e,hb,ao,ac,bo,bc,r0,_⟩:=h.rs.get hp
  refine ⟨b,off,e,fun ww hk=>?_⟩
  have r0' : w.cell? ⟨b,off,none⟩=some (.int .i64 R[0].1):=by simpa using r0
  have e2:R.headD (0,[],[])=R[0]:=by
   cases R with
   | nil=>simp at hp
   | cons x r=>rfl
  rw [e2]
  exact ((KW.trans' hk).cell (p:=⟨b,off,none⟩) hb (fun f=>f)).trans r0'
 by_cases h0:N=0
 ·have hg:=growF_zero (L:=L) (n:=n) (P:=P) (by rw [← HN.out];exact h0)
  rw [hg]
  clear h hg HH CPP CBB HN hN HR0
  subst h0
  generalize partI R P.length=z at *
  go_enter Tryz.func92,Tryz.ntmps92
  go_upto_region 1 with fail
  rw [← hW1]
  clear hW1
  go_upto_region 3 with (first | (go_at_call 132;refine CP.mono ?_;rintro e w2 ⟨rfl,k2⟩;obtain ⟨c0,c1,c2⟩:=BX.out w2 k2;obtain ⟨⟨r0,r1,r2,r3⟩,f0,f1,f2,f3⟩:=RC.out w2 k2))
  go_wp2
  obtain ⟨⟨g0,g1,g2,g3⟩,kk,ks⟩:=PUT.out w2 (.int .i64 3) (.int .i64 0) (.slice none 0 0) (.slice none 0 0) k2
  exact bodyPost_ret (v:=.agg #[.int .i64 3,.int .i64 0,.slice none 0 0,.slice none 0 0]) (by simp [results,Tryz.results92,go_sem,g0,g1,g2,g3]) rfl ⟨_,rfl,leaf_cs _ _ _ _ _,ks⟩
 ·have hb0:((N:Int) == 0)=false:=by simpa using h0
  have hR0:¬ R.length=0:=by rw [← HN.out];exact h0
  cases hp:partN R P.length with
  | some c=>
   obtain ⟨hc,_⟩:=partN_some hp
   have hz:partI R P.length=(c:Int):=by unfold partI;rw [hp]
   rw [hz] at CP
   rw [growF_branch hR0 hp]
   have i1:(0:Int)≤(c:Int):=by omega
   have CB:Hid (∀ ww,Same0 W1 ww→Calls Tryz.prog 133 #[.agg #[.pointer (some ⟨bs,0,none⟩),.slice po P.length pc,.slice ro N rc],.int .i64 (c:Int)] ww (TreeOut ww (BrF L n P R c))):=fun ww hk=>CBB c hc ww (KW.trans' hk)
   cases hbr:BrF L n P R c with
   | ok t=>
    rw [hbr] at CB
    have CB2:Hid (∀ ww,Same0 W1 ww→Calls Tryz.prog 133 #[.agg #[.pointer (some ⟨bs,0,none⟩),.slice po P.length pc,.slice ro N rc],.int .i64 (c:Int)] ww fun e w' => ∃ tk tr tpo tpl tpc tko tkl tkc,e=.returned (.agg #[.int .i64 tk,.int .i64 tr,.slice tpo tpl tpc,.slice tko tkl tkc])∧Hid (CsB (fun b=>ww.heap.size≤b) w' (n+1) (.agg #[.int .i64 tk,.int .i64 tr,.slice tpo tpl tpc,.slice tko tkl tkc]) t)∧Same0 ww w'):=fun ww hk=>by
     refine (CB.out ww hk).mono ?_
     rintro e w' ⟨v,rfl,h1,h2⟩
     obtain ⟨tk,tr,tpo,tpl,tpc,tko,tkl,tkc,rfl⟩:=h1.shape
     exact ⟨tk,tr,tpo,tpl,tpc,tko,tkl,tkc,rfl,h1,h2⟩
    clear h HH CPP CBB HN hN hR0 CB hbr hp hz h0 HR0
    go_enter Tryz.func92,Tryz.ntmps92
    go_upto_region 1 with fail
    rw [← hW1]
    clear hW1
    go_upto_region 5 with (first | (go_at_call 132;refine CP.mono ?_;rintro e w2 ⟨rfl,k2⟩;obtain ⟨c0,c1,c2⟩:=BX.out w2 k2))
    have CB3:=CB2.out w2 k2
    go_wp2_with (first | (go_at_call 133;refine CB3.mono ?_;rintro e w3 ⟨tk,tr,tpo,tpl,tpc,tko,tkl,tkc,rfl,hcs,k3⟩;obtain ⟨⟨r0,r1,r2,r3⟩,f0,f1,f2,f3⟩:=RC.out w3 (k2.trans' k3)))
    obtain ⟨⟨g0,g1,g2,g3⟩,kk,ks⟩:=PUT.out w3 (.int .i64 tk) (.int .i64 tr) (.slice tpo tpl tpc) (.slice tko tkl tkc) (k2.trans' k3)
    have z2:=k2.size
    exact bodyPost_ret (v:=.agg #[.int .i64 tk,.int .i64 tr,.slice tpo tpl tpc,.slice tko tkl tkc]) (by simp [results,Tryz.results92,go_sem,g0,g1,g2,g3]) rfl ⟨_,rfl,CsB.mono (fun b hb q=>by have:w2.heap.size≤b:=q;omega) (CsB.kept kk (fun b q e=>by have:w2.heap.size≤b:=q;omega) hcs.out),ks⟩
   | error z=>
    rw [hbr] at CB
    have CB2:Hid (∀ ww,Same0 W1 ww→Calls Tryz.prog 133 #[.agg #[.pointer (some ⟨bs,0,none⟩),.slice po P.length pc,.slice ro N rc],.int .i64 (c:Int)] ww fun e w' => ∃ b,e=.panicked [{ v:=.iface 114 (.pointer (some ⟨b,0,none⟩)),recovered:=false }]∧Hid (w'.heap[b]? = some (.cells #[.int .i64 82,.int .i64 z,.nilIface] 116 (0,0)))∧Same0 ww w'):=fun ww hk=>by
     refine (CB.out ww hk).mono ?_
     rintro e w' ⟨⟨b,h1,h2⟩,h3⟩
     exact ⟨b,h1,h2,h3⟩
    clear h HH CPP CBB HN hN hR0 CB hbr hp hz h0 HR0
    go_enter Tryz.func92,Tryz.ntmps92
    go_upto_region 1 with fail
    rw [← hW1]
    clear hW1
    go_upto_region 5 with (first | (go_at_call 132;refine CP.mono ?_;rintro e w2 ⟨rfl,k2⟩;obtain ⟨c0,c1,c2⟩:=BX.out w2 k2))
    have CB3:=CB2.out w2 k2
    go_wp2_with (first | (go_at_call 133;refine CB3.mono ?_;rintro e w3 ⟨b,rfl,hb,k3⟩))
    exact ⟨rfl,⟨b,rfl,hb.out⟩,(KW.trans' k2).trans' k3⟩
  | none=>
   have hz:partI R P.length = -1:=by unfold partI;rw [hp]
   rw [hz] at CP
   obtain ⟨rb,roff,rfl,HRC⟩:=HR0.out (by omega)
   have HRD:Hid (∀ ww,Same0 W1 ww→ww.cell? ⟨rb,roff,none⟩=some (.int .i64 (R.headD (0,[],[])).1)):=HRC
   have i1:(0:Int)<(N:Int):=by omega
   by_cases h1:N=1
   ·rw [growF_leaf (by rw [← HN.out];exact h1) hp]
    have hb1:((N:Int) == 1)=true:=by subst h1;rfl
    clear h HH CPP CBB HN hN hR0 hp hz h0 HRC HR0 h1
    generalize (R.headD (0,[],[])).1=z at *
    go_enter Tryz.func92,Tryz.ntmps92
    go_upto_region 1 with fail
    rw [← hW1]
    clear hW1
    go_upto_region 7 with (first | (go_at_call 132;refine CP.mono ?_;rintro e w2 ⟨rfl,k2⟩;obtain ⟨c0,c1,c2⟩:=BX.out w2 k2))
    obtain ⟨⟨r0,r1,r2,r3⟩,f0,f1,f2,f3⟩:=RC.out w2 k2
    have d0:=HRD.out w2 k2
    go_wp2
    obtain ⟨⟨g0,g1,g2,g3⟩,kk,ks⟩:=PUT.out w2 (.int .i64 1) (.int .i64 z) (.slice none 0 0) (.slice none 0 0) k2
    exact bodyPost_ret (v:=.agg #[.int .i64 1,.int .i64 z,.slice none 0 0,.slice none 0 0]) (by simp [results,Tryz.results92,go_sem,g0,g1,g2,g3]) rfl ⟨_,rfl,leaf_cs _ _ _ _ _,ks⟩
   ·rw [growF_fork hR0 (by rw [← HN.out];exact h1) hp]
    have hb1:((N:Int) == 1)=false:=by simp;omega
    clear h HH CPP CBB HN hN hR0 hp hz h0 HRC HR0 h1
    generalize (R.headD (0,[],[])).1=z at *
    go_enter Tryz.func92,Tryz.ntmps92
    go_upto_region 1 with fail
    rw [← hW1]
    clear hW1
    go_upto_region 8 with (first | (go_at_call 132;refine CP.mono ?_;rintro e w2 ⟨rfl,k2⟩;obtain ⟨c0,c1,c2⟩:=BX.out w2 k2))
    have d0:=HRD.out w2 k2
    go_wp2
    exact ⟨rfl,⟨_,rfl,heap_alloc_new w2 _⟩,Kept.alloc (KW.trans' k2) _⟩
theorem tgrow_any (L:List Sym):∀ n,GrowIH L n
 | 0=>fun w bs po pc P ro rc R h=>absurd h.ok.pos (Nat.lt_irrefl 0)
 | n+1=>grow_step (tgrow_any L n)
def RuOut (base:Nat) (w:World) (v:Value) (x:Ru):Prop:=∃ g c g' c', v=.agg #[.slice (some ⟨g,0,none⟩) x.1.length c,.slice (some ⟨g', 0,none⟩) x.2.length c']∧TmAt w g c x.1∧TmAt w g' c' x.2∧base≤g∧base≤g' ∧ g≠g'
set_option maxHeartbeats 2000000 in
theorem sat_yes {w:World} {b bs:Nat} {L:List Sym} {R:List Ru} {lv:Value} {vs:List Value} (h:StAt w b bs L R lv vs) (i:Nat) (hi:i<R.length) :
  Calls Tryz.prog 130 #[.pointer (some ⟨b,0,none⟩),.int .i64 (i:Int)] w fun e w' => ∃ v,e=.returned (.tuple #[v,.int .i64 0])∧RuOut w.heap.size w' v R[i]∧Same0 w w' := by
 have K:Same0 w (w.alloc (.cells #[.slice none 0 0,.slice none 0 0] 90)):=(Kept.refl _ w).alloc _
 have hz:=ok_len (h.ok _ (List.getElem_mem hi))
 have hle:=h.le
 obtain ⟨ro,rc,rfl,hR⟩:=h.read
 have hR1:=hR.same K
 have C:=hR1.cells.2
 obtain ⟨gb,goff,rfl,hgb,ao,ac,bo,bc,r0,r1,A1,A2⟩:=hR1.rs.get hi
 have CC:=copied_any (ac:=ac) (bc:=bc) (x:=R[i]) A1.at' A2.at' hz.1.1 hz.2.1 hz.1.2 hz.2.2
 have G0:=heap_alloc_new w (.cells #[.slice none 0 0,.slice none 0 0] 90)
 have HF:Hid (∀ ww,Same0 (w.alloc (.cells #[.slice none 0 0,.slice none 0 0] 90)) ww→(ww.cell? ⟨w.heap.size,0,none⟩=some (.slice none 0 0)∧ww.cell? ⟨w.heap.size,1,none⟩=some (.slice none 0 0))∧ww.frozen? ⟨w.heap.size,0,none⟩=false∧ww.frozen? ⟨w.heap.size,1,none⟩=false):=fun ww hk=>⟨⟨cellAt (hk.at0 G0) 0,cellAt (hk.at0 G0) 1⟩,frozenAt (hk.at0 G0) 0,frozenAt (hk.at0 G0) 1⟩
 have HR:Hid (∀ ww (A B:Value),Same0 (w.alloc (.cells #[.slice none 0 0,.slice none 0 0] 90)) ww→((ww.setCell ⟨w.heap.size,0,none⟩ A).setCell ⟨w.heap.size,1,none⟩ B).cell? ⟨w.heap.size,0,none⟩=some A∧((ww.setCell ⟨w.heap.size,0,none⟩ A).setCell ⟨w.heap.size,1,none⟩ B).cell? ⟨w.heap.size,1,none⟩=some B):=fun ww A B hk=>by
  have b:=setAt (setAt (hk.at0 G0) 0 A) 1 B
  exact ⟨cellAt b 0,cellAt b 1⟩
 have HE:Hid (∀ ww (A B:Value),Same0 (w.alloc (.cells #[.slice none 0 0,.slice none 0 0] 90)) ww→Same0 w ((ww.setCell ⟨w.heap.size,0,none⟩ A).setCell ⟨w.heap.size,1,none⟩ B)):=fun ww A B hk=>((K.trans' hk).setCell (fun h=>absurd h (by simp)) _).setCell (fun h=>absurd h (by simp)) _
 have HT:Hid (∀ ww g c xs (A B:Value),TmAt ww g c xs→w.heap.size+1≤g→TmAt ((ww.setCell ⟨w.heap.size,0,none⟩ A).setCell ⟨w.heap.size,1,none⟩ B) g c xs):=fun ww g c xs A B ht hg=>by
  have k:Kept (fun k=>k=w.heap.size) ww ((ww.setCell ⟨w.heap.size,0,none⟩ A).setCell ⟨w.heap.size,1,none⟩ B):=Kept.setCell (p:=⟨w.heap.size,1,none⟩) (Kept.setCell (p:=⟨w.heap.size,0,none⟩) (Kept.refl (fun k=>k=w.heap.size) ww) (fun _=>rfl) A) (fun _=>rfl) B
  exact k.row ht (fun i e=>by simp [Value.ownBlock] at e;omega)
 have i1:(0:Int)≤(i:Int):=by omega
 have i2:(i:Int)<(R.length:Int):=by omega
 clear h hR hR1 K A1 A2 hz G0
 simp only [World.size_alloc] at CC
 go_enter Tryz.func130,Tryz.ntmps130
 go_wp2_with (first | (go_at_call 81;refine CC.mono ?_;rintro e w2 ⟨g,c,g', c', rfl,t1,t2,q1,q2,q3,hk2⟩;obtain ⟨⟨c1,c2⟩,f1,f2⟩:=HF.out _ hk2))
 exact bodyPost_ret (v:=.tuple #[.agg #[.slice (some ⟨g,0,none⟩) R[i].1.length c,.slice (some ⟨g', 0,none⟩) R[i].2.length c'],.int .i64 0]) (by obtain ⟨r0,r1⟩:=HR.out w2 (.slice (some ⟨g,0,none⟩) R[i].1.length c) (.slice (some ⟨g', 0,none⟩) R[i].2.length c') hk2;simp [results,Tryz.results130,go_sem,r0,r1]) rfl ⟨_,rfl,⟨g,c,g', c', rfl,HT.out _ _ _ _ _ _ t1 q1,HT.out _ _ _ _ _ _ t2 q2,by omega,by omega,q3⟩,HE.out _ _ _ hk2⟩
end Go.Proofs.YtmjgnfkbnofjoaaGreatDoor
namespace Go.Proofs.YtmjgnfkbnofjoaaGreatDoor
set_option linter.unusedVariables false
set_option maxRecDepth 100000
open Go.RowKit Go.Deep
def GoodR (L:List Sym) (R:List Ru):Prop:=R.length≤100∧∀ i (h:i<R.length) (j:Nat),j+1<8→askB L 0 (R.take i) R[i] (j+1)=true
theorem GoodR.nil (L:List Sym):GoodR L []:=⟨by simp,fun i h=>absurd h (by simp)⟩
theorem ask_any (L:List Sym) (N M:Nat) (A:List Ru) (x:Ru) (j:Nat):askB L N A x (j+1)=askB L M A x (j+1):=by
 match j with
 | 0=>rfl
 | 1=>rfl
 | 2=>rfl
 | 3=>rfl
 | 4=>rfl
 | 5=>rfl
 | j+6=>rfl
theorem GoodR.add {L:List Sym} {R l:List Ru} (h:GoodR L R) (ha:Ans L R l []):GoodR L (R++l):=by
 refine ⟨by simpa using (ha.fit h.1).1,fun i hi j hj=>?_⟩
 by_cases hl:i<R.length
 ·rw [List.getElem_append_left hl,List.take_append_of_le_length (by omega)]
  exact h.2 i hl j hj
 ·have hm:i-R.length<l.length:=by simp at hi;omega
  have:=ha.nil (j+1) hj (i-R.length) hm
  rw [List.getElem_append_right (by omega),List.take_append,List.take_of_length_le (by omega)]
  unfold ckB at this
  rw [ask_any L _ 0] at this
  simpa [List.getD,hm] using this
structure RFacts (L:List Sym) (R:List Ru) (i:Nat) (x:Ru):Prop where
 ok:checkE L x.1=0∧checkE L x.2=0
 l1:x.1.length≤200
 l2:x.2.length≤200
 pos:0<x.1.length
 top:∀ h:0<x.1.length,defB L x.1[0]=true
 low:∀ k (h:k<x.1.length),0<k→defB L x.1[k]=false
 apart:∀ k (hk:k<i) (h:k<R.length),claB L x.1 R[k].1=true∧claE L x.1 R[k].1=0
theorem bytes_rule:Tryz.prog.bytesOf 90=48:=by kernel_rfl
theorem cells_rule:Tryz.prog.cellsOf 90=2:=by kernel_rfl
structure ArgR (w:World) (lo:Option Addr) (l:List Ru) (cap:Nat):Prop where
 at' : RsAt w lo l
 cap' : l.length≤cap
 size:l.length * 48≤140737488351232
section
variable {H : Type} {enc : TypeId × Value → H} {w : World} {spare : Nat → Bool} {held : Bool}
theorem weightsAll_mem7 {P:Program} {e:TypeId} {l:List (DataW H)} {d:DataW H} (h:d∈l) {n:Nat} (hn:n∈d.weights P e):n∈DataW.weightsAll P e l:=by
 induction l with
 | nil=>cases h
 | cons x r ih=>
  simp only [DataW.weightsAll,List.mem_append]
  rcases List.mem_cons.1 h with q | q
  ·subst q;exact .inl hn
  ·exact .inr (ih q)
theorem open_elems7 {t e c fuel:Nat} {ao:Option Addr} {len cap:Nat} {x:DataW H × List MemPlace} (ht:Tryz.prog.underlying t=some (.slice e)) (hc:Tryz.prog.cellsOf e=c) (h0:0<c) (h:DataW.trod enc Tryz.prog w 0 spare held fuel t [.slice ao len cap]=some x) (hw:∀ n∈x.1.weights Tryz.prog t,n≤reachBytes) :
  (ao=none∧len=0∧cap=0)∨∃ a,ao=some a∧len≤cap∧cap≤maxLen∧len * Tryz.prog.bytesOf e≤reachBytes∧∀ i,i<len→a=⟨a.block,a.off,none⟩∧a.block<w.heap.size∧∃ cs n y,cs.length=c∧(∀ j,j<c→w.cell? ⟨a.block,a.off+i * c+j,none⟩=cs[j]?)∧DataW.trod enc Tryz.prog w 0 spare held n e cs=some y∧∀ n∈y.1.weights Tryz.prog e,n≤reachBytes:=by
 rcases open_slice ht h with ⟨hcs,_⟩ | ⟨a,len', cap', m,n,D,Pl,hcs,_,hl,hm,hmm,rfl,hx⟩
 ·simp at hcs;exact .inl ⟨hcs.1,hcs.2.1,hcs.2.2⟩
 ·simp at hcs
  obtain ⟨rfl,rfl,rfl⟩:=hcs
  have hb:len * Tryz.prog.bytesOf e≤reachBytes:=by
   have:=hw ((((List.range len).map D).length+((List.range (m-len)).map fun j=>D (len+j)).length) * Tryz.prog.bytesOf e) (by simp [DataW.weights,ht])
   refine Nat.le_trans (Nat.mul_le_mul_right _ ?_) this
   simp
  refine .inr ⟨a,rfl,hl,hm,hb,fun i hi=>?_⟩
  have hmi:i<m:=by rw [hmm];split <;> omega
  have hm0:0<m:=by omega
  obtain ⟨cs0,g0,_⟩:=hx 0 hm0
  rw [hc] at g0
  obtain ⟨_,gl,gc⟩:=World.cells?_some g0
  have hsp:a.spot=none:=by
   have:=gc 0 h0
   have hv:cs0[0]? = some (cs0[0]'(by omega)):=List.getElem?_eq_getElem (by omega)
   rw [hv] at this
   simp [Addr.add] at this
   exact World.cell?_spot this
  have hlt:a.block<w.heap.size:=World.cells?_block (by simpa [Addr.add] using g0) h0
  have ea:a=⟨a.block,a.off,none⟩:=by cases a;simp_all
  obtain ⟨cs,g1,g2⟩:=hx i hmi
  rw [hc] at g1
  obtain ⟨_,gl1,gc1⟩:=World.cells?_some g1
  refine ⟨ea,hlt,cs,n,_,gl1,fun j hj=>?_,g2,fun k hk=>hw k ?_⟩
  ·rw [← gc1 j hj,add_add]
   congr 1
   unfold Addr.add
   split
   ·rw [ea];simp;omega
   ·simp
  ·simp only [DataW.weights,ht,List.mem_cons,List.mem_append]
   exact .inr (.inl (weightsAll_mem7 (List.mem_map.2 ⟨i,by simpa using hi,rfl⟩) hk))
theorem trod_pair7 {P:Program} {base:Nat} {t:TypeId} {f0 f1:Field} {fuel:Nat} {cs:List Value} {x:DataW H × List MemPlace} (ht:P.underlying t=some (.struct #[f0,f1])) (h:DataW.trod enc P w base spare held fuel t cs=some x) :
  ∃ y0 y1 n,x.1=.agg [y0.1,y1.1]∧cs.length=P.cellsOf t∧DataW.trod enc P w base spare held n f0.type ((cs.drop f0.offset).take (P.cellsOf f0.type))=some y0∧DataW.trod enc P w base spare held n f1.type ((cs.drop f1.offset).take (P.cellsOf f1.type))=some y1:=by
 obtain ⟨xs,n,_,rfl,hl,hlen,hf⟩:=DataW.trod_struct ht h
 match xs,hlen with
 | [y0,y1],_=>exact ⟨y0,y1,n,by simp,hl,by simpa using hf 0 f0 rfl,by simpa using hf 1 f1 rfl⟩
theorem open_rules {fuel:Nat} {ao:Option Addr} {len cap:Nat} {x:DataW H × List MemPlace} (h:DataW.trod enc Tryz.prog w 0 spare held fuel 29 [.slice ao len cap]=some x) (hw:∀ n∈x.1.weights Tryz.prog 29,n≤reachBytes) :
  ∃ l,l.length=len∧ArgR w ao l cap:=by
 rcases open_elems7 Tryz.underlying29 cells_rule (by omega) h hw with ⟨rfl,rfl,rfl⟩ | ⟨a,rfl,hl1,hl2,hsz,hall⟩
 ·exact ⟨[],rfl,.inl rfl,Nat.le_refl _,by simp⟩
 ·rw [bytes_rule] at hsz
  have each:∀ i,i<len→∃ x:Ru,RuAt w a.block (a.off+i * 2) x:=by
   intro i hi
   obtain ⟨_,_,cs,n,y,hl,hcell,hy,hyw⟩:=hall i hi
   obtain ⟨y0,y1,n', hyd,hl', g0,g1⟩:=trod_pair7 Tryz.underlying90 hy
   match cs,hl with
   | [c0,c1],_=>
    simp only [cells_term,List.drop_zero,List.take_succ_cons,List.take_zero,List.drop_succ_cons] at g0 g1
    have hyw0:∀ n∈y0.1.weights Tryz.prog 74,n≤reachBytes:=fun n hn=>hyw n (by
     rw [hyd]
     simp only [DataW.weights,Tryz.underlying90]
     simp [DataW.weightsEach,hn])
    have hyw1:∀ n∈y1.1.weights Tryz.prog 74,n≤reachBytes:=fun n hn=>hyw n (by
     rw [hyd]
     simp only [DataW.weights,Tryz.underlying90]
     simp [DataW.weightsEach,hn])
    obtain ⟨xo,xc,xs,e0,k0⟩:=open_ints Tryz.underlying74 g0 hyw0
    obtain ⟨yo,yc,ys,e1,k1⟩:=open_ints Tryz.underlying74 g1 hyw1
    simp only [List.cons.injEq,and_true] at e0 e1
    subst e0 e1
    exact ⟨(xs,ys),xo,xc,yo,yc,by simpa using hcell 0 (by omega),by simpa using hcell 1 (by omega),k0,k1⟩
  obtain ⟨f,hf⟩:=Classical.axiomOfChoice (r:=fun (i:Fin len) (x:Ru)=>RuAt w a.block (a.off+i * 2) x) (fun i=>each i i.2)
  refine ⟨List.ofFn f,by simp,?_,by simpa using hl1,by simpa [reachBytes] using hsz⟩
  by_cases h0:len=0
  ·subst h0;exact .inl (by simp)
  ·obtain ⟨ea,hlt,_⟩:=hall 0 (by omega)
   refine .inr ⟨a.block,a.off,by rw [← ea],hlt,fun i hi=>?_⟩
   have hi' : i<len:=by simpa using hi
   simpa using hf ⟨i,hi'⟩
end
end Go.Proofs.YtmjgnfkbnofjoaaGreatDoor
