import Derived.Test.YtdhiiicppcgkbaaGreatGW14
namespace Go.Proofs.YtdhiiicppcgkbaaGreat
set_option maxRecDepth 100000
set_option linter.unusedVariables false
open Go.RowKit
attribute [local go_sem ↓] Go.wp_at_zero Go.wp_at_succ
theorem eqnilI (w:World) (a:Option Addr) (n c n' c' : Nat):(binOp .eql 22 (.slice a n c) (.slice none n' c')).run Tryz.prog w=.ok (.bool a.isNone) w:=Lib.run_eql_slice_nil w _ _ a n c n' c' Tryz.underlying22
set_option maxHeartbeats 1000000 in
theorem cloneI_any {w:World} {ao:Option Addr} {cap:Nat} {xs:List Int} (hx:Arg w ao xs cap) :
  Calls Tryz.prog 77 #[.slice ao xs.length cap] w fun e w' => ∃ v,e=.returned v∧Row w.heap.size w' v xs∧Same0 w w' := by
 have hnil:=eqnilI
 have hsz:=hx.size
 cases ao with
 | none=>
  obtain ⟨h0,rfl⟩:=hx.nil rfl
  obtain rfl:xs=[]:=List.eq_nil_of_length_eq_zero h0
  go_enter Tryz.func77,Tryz.ntmps77
  go_wp2
  go_ret
  exact ⟨_,rfl,World.ownsRow_nil _ _ _ _,Kept.refl _ _⟩
 | some ad=>
  have k0:Same0 w (w.alloc (.cells #[] 3)):=(Kept.refl _ w).alloc _
  have r0:Row w.heap.size (w.alloc (.cells #[] 3)) (.slice (some ⟨w.heap.size,0,none⟩) 0 0) []:=row_empty w _ (Nat.le_refl _) rfl
  have cI:=hx.at'.same k0
  have z0:=k0.size
  clear hx
  go_enter Tryz.func77,Tryz.ntmps77
  go_wp2_with (first | (at_builtin;refine wpList_more rfl _ _ 22 rfl Tryz.underlying22 w.heap.size [] _ rfl r0 xs _ _ _ rfl rfl cI z0 (by simp;omega) ?_;intro v' w4 hr4 hk4))
  go_ret
  exact ⟨_,rfl,by simpa using hr4,k0.onto r0 hk4⟩
def KidsF (L:List Sym) (n:Nat) (P:List (List Int)) (R:List Rw) (c k:Nat):Except Int (List (Int × Tr n)):=
 kidsN (fun s=>decide (0<(havR R c (s:Int)).length)) (fun s=>growF L n (kidP L P c s) ((havR R c (s:Int)).map (kidX L c))) k
theorem KidsF_len {L:List Sym} {n:Nat} {P:List (List Int)} {R:List Rw} {c:Nat}:∀ {k:Nat} {l:List (Int × Tr n)},KidsF L n P R c k=.ok l→l.length≤k
 | 0,l,h=>by cases h;simp
 | k+1,l,h=>by
  unfold KidsF kidsN at h
  cases hk:KidsF L n P R c k with
  | error e=>unfold KidsF at hk;rw [hk] at h;cases h
  | ok m=>
   have hm:=KidsF_len hk
   unfold KidsF at hk
   rw [hk] at h
   simp only at h
   split at h
   ·split at h
    ·cases h
    ·cases h;simp;omega
   ·cases h;omega
def BrF (L:List Sym) (n:Nat) (P:List (List Int)) (R:List Rw) (c:Nat):Except Int (Tr (n+1)):=
 match KidsF L n P R c L.length with
 | .error e=>.error e
 | .ok l=>.ok (2,0,P.getD c [],l)
theorem KidsF_err {L : List Sym} {n : Nat} {P : List (List Int)} {R : List Rw} {c : Nat} {z : Int} : ∀ {k m : Nat}, KidsF L n P R c k = .error z → k ≤ m → KidsF L n P R c m = .error z
  | k, 0, h, hm => by obtain rfl : k = 0 := by omega
                      exact h
  | k, m + 1, h, hm => by
    by_cases e : k = m + 1
    · subst e; exact h
    · have := KidsF_err h (show k ≤ m by omega)
      unfold KidsF at this ⊢
      unfold kidsN
      rw [this]
abbrev zeroCs:Obj:=.cells #[.int .i64 0,.int .i64 0,.slice none 0 0,.slice none 0 0] 25
set_option maxHeartbeats 16000000 in
theorem branch_any {L:List Sym} {n:Nat} (IH:GrowIH L n) {w:World} {bs:Nat} {po:Option Addr} {pc:Nat} {P:List (List Int)} {ro:Option Addr} {rc:Nat} {R:List Rw} (h:NdIn w L (n+1) bs po pc P ro R) {c:Nat} (hc:c<P.length) :
  Calls Tryz.prog 114 #[.agg #[.pointer (some ⟨bs,0,none⟩),.slice po P.length pc,.slice ro R.length rc],.int .i64 (c:Int)] w (TreeOut w (BrF L n P R c)):=by
 have hle:=h.ok.le
 have hfew:=h.ok.few
 have hpl:=h.ok.len _ (List.getElem_mem hc)
 have hL64:L.length≤64:=by obtain ⟨⟨sv,mr,hs,_⟩,_⟩:=h.sig;exact hs.len
 obtain ⟨W1,hW1⟩:∃ W1,W1=(w.alloc (.cells #[.pointer (some ⟨bs,0,none⟩),.slice po P.length pc,.slice ro R.length rc] 163)).alloc zeroCs:=⟨_,rfl⟩
 have KW:Same0 w W1:=by rw [hW1];exact ((Kept.refl _ w).alloc _).alloc _
 have HH:Hid (∀ ww,Same0 W1 ww→NdIn ww L (n+1) bs po pc P ro R):=fun ww hk=>h.same (KW.trans' hk)
 have BX:Hid (∀ ww,Same0 W1 ww→ww.cell? ⟨w.heap.size,0,none⟩=some (.pointer (some ⟨bs,0,none⟩))∧ww.cell? ⟨w.heap.size,1,none⟩=some (.slice po P.length pc)∧ww.cell? ⟨w.heap.size,2,none⟩=some (.slice ro R.length rc)):=fun ww hk=>by
  have hb:W1.heap[w.heap.size]? = some (.cells #[.pointer (some ⟨bs,0,none⟩),.slice po P.length pc,.slice ro R.length rc] 163 (0,0)):=by rw [hW1];exact heap_alloc2_old _ _ _
  exact ⟨cellAt (hk.at0 hb) 0,cellAt (hk.at0 hb) 1,cellAt (hk.at0 hb) 2⟩
 have RS:Hid (∀ ww,Same0 W1 ww→ww.heap[w.heap.size+1]? = some (.cells #[.int .i64 0,.int .i64 0,.slice none 0 0,.slice none 0 0] 25 (0,0))):=fun ww hk=>hk.at0 (by rw [hW1];exact heap_al_al _ _ _)
 obtain ⟨pb,poff,ao,ac,rfl,hpb,hcell,hArg⟩:=h.ps.get hc
 have PC:=(KW.cell (p:=⟨pb,poff+c,none⟩) hpb (fun f=>f)).trans hcell
 have CL:=cloneI_any (hArg.1.same KW)
 have ez:w.heap.size+1<W1.heap.size:=by rw [hW1];simp
 have i1:(0:Int)≤(c:Int):=by omega
 have i2:(c:Int)<(P.length:Int):=by omega
 have CN:Hid (∀ ww,Same0 W1 ww→Calls Tryz.prog 109 #[.pointer (some ⟨bs,0,none⟩)] ww fun e w' => e=.returned (.int .i64 (L.length:Int))∧w' = ww):=fun ww hk=>sg_len (HH.out ww hk).sig
 have HLP:Hid (P.getD c []=P[c]):=getD_lt hc []
 clear h hArg hcell
 obtain ⟨b0,b1,b2⟩:=BX.out W1 (Kept.refl _ _)
 go_enter Tryz.func114,Tryz.ntmps114
 go_upto_region 1 with fail
 rw [← hW1]
 clear hW1
 go_upto_region 2 with (first | (go_at_call 77;refine CL.mono ?_;rintro e w2 ⟨v2,rfl,hrow,hk2⟩;obtain ⟨qo,qc,rfl,a2,q2⟩:=hrow.arg (by omega)))
 have K2:Same0 W1 w2:=hk2
 obtain ⟨kb,hkb⟩:∃ kb,kb=w2.heap.size:=⟨_,rfl⟩
 have HQ:Hid (∀ ww,Same0 w2 ww→Arg ww qo P[c] qc):=fun ww hk=>a2.1.same hk
 have HQB:Hid (∀ a,qo=some a→W1.heap.size≤a.block):=q2
 have hN0:Hid ((w2.alloc (.cells #[.int .i64 2,.int .i64 0,.slice qo P[c].length qc,.slice none 0 0] 25)).heap[kb]? = some (.cells #[.int .i64 2,.int .i64 0,.slice qo P[c].length qc,.slice none 0 0] 25 (0,0))):=by rw [hkb];exact heap_alloc_new w2 _
 have K3:Same0 w2 (w2.alloc (.cells #[.int .i64 2,.int .i64 0,.slice qo P[c].length qc,.slice none 0 0] 25)):=(Kept.refl _ _).alloc _
 have hkW:W1.heap.size≤kb:=by rw [hkb];exact K2.size
 have HKB:Hid (kb=w2.heap.size):=hkb
 rw [← hkb]
 have hz3:(w2.alloc (.cells #[.int .i64 2,.int .i64 0,.slice qo P[c].length qc,.slice none 0 0] 25)).heap.size=kb+1:=by rw [hkb];simp
 have HZ3:Hid ((w2.alloc (.cells #[.int .i64 2,.int .i64 0,.slice qo P[c].length qc,.slice none 0 0] 25)).heap.size=kb+1):=hz3
 obtain ⟨b3,_,_⟩:=BX.out _ (K2.trans' K3)
 have CN3:=CN.out _ (K2.trans' K3)
 clear hrow a2 q2 CL PC b0 b1 b2 hkb hk2 hz3
 go_wp2_with (first | (go_at_call 109;refine CN3.mono ?_;rintro e w4 ⟨rfl,rfl⟩))
 clear CN3 b3
 go_loopw [18] (fun i wr=>∃ (k:Nat) (lv:Value) (us:List Value) (l:List (Int × Tr n)),k≤L.length∧i=.int .i64 (k:Int)∧Hid (KidsF L n P R c k=.ok l)∧Hid (wr.heap[kb]? = some (.cells #[.int .i64 2,.int .i64 0,.slice qo P[c].length qc,lv] 25 (0,0)))∧Hid (wr.ownsRow (kb+1) 185 5 lv l.length us)∧Hid (KCells (fun b=>kb<b∧lv.ownBlock≠some b) wr n us l)∧Same0 w2 wr) (fun i _=>L.length-(intOf i).toNat)
 case atStart=>exact ⟨0,.slice none 0 0,[],[],Nat.zero_le _,rfl,rfl,hN0,World.ownsRow_nil _ _ _ _,KCells.nil _ _ _,K3⟩
 case round=>
  clear hN0 K3 CN
  obtain ⟨k,lv,us,l,hk,rfl,hK,hN,hr,hus,hw⟩:=hrel
  obtain ⟨lo,lc,rfl⟩:=row_shape hr.out
  have hw1:Same0 W1 wr:=K2.trans' hw
  obtain ⟨b0,b1,b2⟩:=BX.out wr hw1
  have hll:=KidsF_len hK.out
  by_cases hlt:k<L.length
  ·have NI:=HH.out wr hw1
   have CH:=having_any (nv:=.nilIface) (pv:=.nilIface) (rc:=rc) (bs:=bs) (po:=some ⟨pb,poff,none⟩) (pl:=P.length) (pc:=pc) NI.rs NI.ok.rows NI.ok.le c hc (k:Int)
   have BY:Hid (∀ ww,Same0 wr ww→(ww.cell? ⟨w.heap.size,0,none⟩=some (.pointer (some ⟨bs,0,none⟩))∧ww.cell? ⟨w.heap.size,1,none⟩=some (.slice (some ⟨pb,poff,none⟩) P.length pc)∧ww.cell? ⟨w.heap.size,2,none⟩=some (.slice ro R.length rc))∧ww.cell? ⟨kb,3,none⟩=some (.slice lo l.length lc)):=fun ww hk=>⟨BX.out ww (hw1.trans' hk),cellAt (hk.at0 hN.out) 3⟩
   by_cases hhas:0<(havR R c (k:Int)).length
   ·have hgt:(0:Int)<((havR R c (k:Int)).length:Int):=by omega
    have KO:Hid (∀ w3 ho hcc,Same0 wr w3→RwAt w3 ho (havR R c (k:Int))→∀ ww,Same0 w3 ww→Calls Tryz.prog 112 #[.agg #[.pointer (some ⟨bs,0,none⟩),.slice (some ⟨pb,poff,none⟩) P.length pc,.slice ro R.length rc],.int .i64 (c:Int),.int .i64 (k:Int),.slice ho (havR R c (k:Int)).length hcc] ww fun e w' => ∃ vo vc xo xc,e=.returned (.agg #[.pointer (some ⟨bs,0,none⟩),.slice vo (kidP L P c k).length vc,.slice xo (havR R c (k:Int)).length xc])∧Hid (NdIn w' L n bs vo vc (kidP L P c k) xo ((havR R c (k:Int)).map (kidX L c)))∧Same0 ww w'):=by
     intro w3 ho hcc k3 hh ww k4
     have NI3:=(NI.same k3).same k4
     refine (kid_any (NI3.toKid hc hlt (hh.same k4))).mono ?_
     rintro e w' ⟨vo,vc,xo,xc,rfl,z1,z2,z3,z4,z5,z6⟩
     exact ⟨vo,vc,xo,xc,rfl,⟨sg_up (NI3.sig.same z6) z6.size,z1,z2,z3,z4,NI.ok.kid hc hlt (arN_le NI.sig.2 _) (fun e=>by rw [e] at hhas;simp at hhas)⟩,z6⟩
    have GO:Hid (∀ ww vo vc xo xc,NdIn ww L n bs vo vc (kidP L P c k) xo ((havR R c (k:Int)).map (kidX L c))→Calls Tryz.prog 73 #[.agg #[.pointer (some ⟨bs,0,none⟩),.slice vo (kidP L P c k).length vc,.slice xo (havR R c (k:Int)).length xc]] ww (TreeOut ww (growF L n (kidP L P c k) ((havR R c (k:Int)).map (kidX L c))))):=fun ww vo vc xo xc hi=>by
     have:=IH ww bs vo vc _ xo xc _ hi
     rw [List.length_map] at this
     exact this
    have HS:KidsF L n P R c (k+1)=(match growF L n (kidP L P c k) ((havR R c (k:Int)).map (kidX L c)) with | .error e=>.error e | .ok t=>.ok (l ++ [((k:Int),t)])):=by
     have:=hK.out
     unfold KidsF at this ⊢
     rw [kidsN,this]
     simp only [hhas,decide_true,if_true]
     cases growF L n (kidP L P c k) ((havR R c (k:Int)).map (kidX L c)) <;> rfl
    cases hg:growF L n (kidP L P c k) ((havR R c (k:Int)).map (kidX L c)) with
    | error z=>
     rw [hg] at HS
     have HE:Hid (∀ ww w' e,Same0 wr ww→Same0 ww w' → FkAt w' e z→TreeOut w (BrF L n P R c) e w'):=fun ww w' e k1 k2 hf=>by
      have:BrF L n P R c=.error z:=by unfold BrF;rw [KidsF_err HS (show k+1≤L.length by omega)]
      rw [this]
      exact ⟨hf,((KW.trans' hw1).trans' k1).trans' k2⟩
     have GE:Hid (∀ ww vo vc xo xc,NdIn ww L n bs vo vc (kidP L P c k) xo ((havR R c (k:Int)).map (kidX L c))→Calls Tryz.prog 73 #[.agg #[.pointer (some ⟨bs,0,none⟩),.slice vo (kidP L P c k).length vc,.slice xo (havR R c (k:Int)).length xc]] ww fun e w' => Hid (FkAt w' e z)∧Same0 ww w'):=fun ww vo vc xo xc hi=>by
      have:=GO.out ww vo vc xo xc hi
      rw [hg] at this
      exact this
     clear HS hg GO hK hr hus hN NI hll hhas
     go_upto_region 7 with (first | (go_at_call 151;refine CH.mono ?_;rintro e w3 ⟨ho,hcc,rfl,hh,hhn,k3⟩))
     have WD:Same0 w3 w3.drew:=(Kept.refl _ _).drew
     refine wp_region_held_drew (S:=fun w' => (w'.cell? ⟨w.heap.size,0,none⟩=some (.pointer (some ⟨bs,0,none⟩))∧w'.cell? ⟨w.heap.size,1,none⟩=some (.slice (some ⟨pb,poff,none⟩) P.length pc)∧w'.cell? ⟨w.heap.size,2,none⟩=some (.slice ro R.length rc))∧w'.cell? ⟨kb,3,none⟩=some (.slice lo l.length lc)) (by kernel_rfl) (BY.out _ (k3.trans' WD)) (fun hHeld=>?_)
     refine wpAnyH_take (i:=0) (v:=.pointer (some ⟨kb,3,none⟩)) rfl (by kernel_rfl) (by kernel_rfl) (by kernel_rfl) (fun _ _ _ h=>h) (.inl ⟨rfl,fun w' hS=>by simp [go_sem]⟩) hHeld ?_
     refine wpAnyH_take (i:=1) (v:=.slice lo l.length lc) rfl (by kernel_rfl) (by kernel_rfl) (by kernel_rfl) (fun _ _ _ h=>h) (.inl ⟨rfl,fun w' hS=>by simp [go_sem,hS.2]⟩) hHeld ?_
     refine wpAnyH_take (i:=2) (v:=.int .i64 (k:Int)) rfl (by kernel_rfl) (by kernel_rfl) (by kernel_rfl) (fun _ _ _ h=>h) (.inl ⟨rfl,fun w' hS=>by simp [go_sem]⟩) hHeld ?_
     refine wpAnyH_take (i:=3) (v:=.agg #[.pointer (some ⟨bs,0,none⟩),.slice (some ⟨pb,poff,none⟩) P.length pc,.slice ro R.length rc]) rfl (by kernel_rfl) (by kernel_rfl) (by kernel_rfl) (fun _ _ _ h=>h) (.inl ⟨rfl,fun w' hS=>by simp [go_sem,hS.1.1,hS.1.2.1,hS.1.2.2]⟩) hHeld ?_
     refine wpAnyH_take (i:=4) (v:=.int .i64 (c:Int)) rfl (by kernel_rfl) (by kernel_rfl) (by kernel_rfl) (fun _ _ _ h=>h) (.inl ⟨rfl,fun w' hS=>by simp [go_sem]⟩) hHeld ?_
     refine wpAnyH_take (i:=5) (v:=.int .i64 (k:Int)) rfl (by kernel_rfl) (by kernel_rfl) (by kernel_rfl) (fun _ _ _ h=>h) (.inl ⟨rfl,fun w' hS=>by simp [go_sem]⟩) hHeld ?_
     refine wpAnyH_take (i:=6) (v:=.slice ho (havR R c (k:Int)).length hcc) rfl (by kernel_rfl) (by kernel_rfl) (by kernel_rfl) (fun _ _ _ h=>h) (.inl ⟨rfl,fun w' hS=>by simp [go_sem]⟩) hHeld ?_
     refine wpAnyH_ready (rs:=[7]) (by kernel_rfl) (by simp) ?_
     refine AllReadyH.cons rfl (fun K hK=>?_) AllReadyH.nil
     refine step_callx rfl (KO.out w3 ho hcc k3 hh _ WD) (by simp [go_sem]) ?_
     rintro e w4 ⟨vo,vc,xo,xc,rfl,ni,k4⟩
     refine ⟨_,rfl,?_⟩
     have k14:=k3.trans' (WD.trans' k4)
     refine hK.out _ _ (BY.out _ k14) (fun hHeld=>?_)
     clear hK K
     refine wpAnyH_ready (rs:=[8]) (by kernel_rfl) (by simp) ?_
     refine AllReadyH.cons rfl (fun K hK=>?_) AllReadyH.nil
     refine step_callp rfl (GE.out w4 vo vc xo xc ni.out) (by simp [go_sem]) ?_
     rintro e w5 ⟨hf,k5⟩
     have HF:=HE.out w4 w5 e k14 k5 hf.out
     obtain ⟨b,rfl,hb⟩:=hf.out
     exact ⟨_,rfl,rfl,HF⟩
    | ok t=>
     rw [hg] at HS
     have HS' : Hid (KidsF L n P R c (k+1)=.ok (l ++ [((k:Int),t)])):=HS
     have GE:Hid (∀ ww vo vc xo xc,NdIn ww L n bs vo vc (kidP L P c k) xo ((havR R c (k:Int)).map (kidX L c))→Calls Tryz.prog 73 #[.agg #[.pointer (some ⟨bs,0,none⟩),.slice vo (kidP L P c k).length vc,.slice xo (havR R c (k:Int)).length xc]] ww fun e w' => ∃ tk tr tpo tpl tpc tko tkl tkc,e=.returned (.agg #[.int .i64 tk,.int .i64 tr,.slice tpo tpl tpc,.slice tko tkl tkc])∧Hid (CsB (fun b=>ww.heap.size≤b) w' n (.agg #[.int .i64 tk,.int .i64 tr,.slice tpo tpl tpc,.slice tko tkl tkc]) t)∧Same0 ww w'):=fun ww vo vc xo xc hi=>by
      have:=GO.out ww vo vc xo xc hi
      rw [hg] at this
      refine this.mono ?_
      rintro e w' ⟨v,rfl,h1,h2⟩
      obtain ⟨tk,tr,tpo,tpl,tpc,tko,tkl,tkc,rfl⟩:=h1.shape
      exact ⟨tk,tr,tpo,tpl,tpc,tko,tkl,tkc,rfl,h1,h2⟩
     have hz2:w2.heap.size=kb:=HKB.out.symm
     have hkr:kb<wr.heap.size:=lt_of_at hN.out
     have FIN:Hid (∀ w4 w5 c0 c1 c2 c3 g cap w11,Same0 wr w4→Same0 w4 w5→CsB (fun b=>w4.heap.size≤b) w5 n (.agg #[c0,c1,c2,c3]) t→w11.ownsRow (kb+1) 185 5 (.slice (some ⟨g,0,none⟩) (l.length+1) cap) (l.length+1) (us ++ [.int .i64 (k:Int),c0,c1,c2,c3])→Kept (fun q=>(Value.slice lo l.length lc).ownBlock=some q) w5 w11→((Value.slice lo l.length lc).ownBlock=some g∨w5.heap.size≤g)→(w11.cell? ⟨kb,3,none⟩=some (.slice lo l.length lc)∧w11.frozen? ⟨kb,3,none⟩=false)∧Hid (∃ us' l', Hid (KidsF L n P R c (k+1)=.ok l')∧Hid ((w11.setCell ⟨kb,3,none⟩ (.slice (some ⟨g,0,none⟩) (l.length+1) cap)).heap[kb]? = some (.cells #[.int .i64 2,.int .i64 0,.slice qo P[c].length qc,.slice (some ⟨g,0,none⟩) (l.length+1) cap] 25 (0,0)))∧Hid ((w11.setCell ⟨kb,3,none⟩ (.slice (some ⟨g,0,none⟩) (l.length+1) cap)).ownsRow (kb+1) 185 5 (.slice (some ⟨g,0,none⟩) (l.length+1) cap) l'.length us')∧Hid (KCells (fun b=>kb<b∧(Value.slice (some ⟨g,0,none⟩) (l.length+1) cap).ownBlock≠some b) (w11.setCell ⟨kb,3,none⟩ (.slice (some ⟨g,0,none⟩) (l.length+1) cap)) n us' l')∧Same0 w2 (w11.setCell ⟨kb,3,none⟩ (.slice (some ⟨g,0,none⟩) (l.length+1) cap)))):=by
      intro w4 w5 c0 c1 c2 c3 g cap w11 k4 k5 hcs r11 k11 hat
      have kr5:Same0 wr w5:=k4.trans' k5
      have hr5:=kr5.row hr.out (fun _ _ f=>f)
      have n5:=kr5.at0 hN.out
      have nk:¬ (Value.slice lo l.length lc).ownBlock=some kb:=fun e=>by
       obtain ⟨cu,h5⟩:=own_blk hr5 e
       rw [n5] at h5;cases h5
      have n11:=k11.at n5 nk
      have ks:Kept (fun q=>q=kb) w11 (w11.setCell ⟨kb,3,none⟩ (.slice (some ⟨g,0,none⟩) (l.length+1) cap)):=Kept.setCell (p:=⟨kb,3,none⟩) (Kept.refl (fun q=>q=kb) w11) (fun _=>rfl) _
      have z4:=k4.size
      have z5:=k5.size
      have hK1:KCells (fun b=>kb<b∧(Value.slice lo l.length lc).ownBlock≠some b∧b<w5.heap.size) w5 n us l:=by
       have:=hus.out.mono (B' := fun b=>kb<b∧(Value.slice lo l.length lc).ownBlock≠some b∧b<w5.heap.size) (fun b hb q=>⟨q.1,q.2,by omega⟩)
       exact this.kept kr5 (fun _ _ f=>f)
      have hC1:CsB (fun b=>kb<b∧(Value.slice lo l.length lc).ownBlock≠some b∧b<w5.heap.size) w5 n (.agg #[c0,c1,c2,c3]) t:=CsB.mono (fun b hb q=>⟨by omega,fun e=>by have:=(hr.out.lt b e).2;omega,hb⟩) hcs
      refine ⟨⟨cellAt n11 3,frozenAt n11 3⟩,us ++ [.int .i64 (k:Int),c0,c1,c2,c3],l ++ [((k:Int),t)],HS', setAt n11 3 _,?_,?_,?_⟩
      ·show World.ownsRow _ _ _ _ _ _ _
       rw [List.length_append]
       exact ks.row r11 (fun q e f=>by
        obtain ⟨cu,h5⟩:=own_blk r11 e
        subst f
        rw [n11] at h5;cases h5)
      ·have a1:=(hK1.snoc (s:=(k:Int)) hC1).kept k11 (fun b q e=>q.2.1 e)
       have a2:=a1.kept ks (fun b q e=>by have:=q.1;omega)
       exact a2.mono (fun b hb q=>⟨q.1,fun e=>by
        simp only [Value.ownBlock,Option.some.injEq] at e
        subst e
        rcases hat with e | e
        ·exact q.2.1 e
        ·have:=q.2.2;omega⟩)
      ·refine Kept.trans (Kept.trans (hw.trans' kr5) k11 (fun i hi e=>?_)) ks (fun i hi e=>by omega)
       have:=(hr5.lt i e).1
       omega
     have FS:Hid (∀ w5 w11 v,Same0 wr w5→Kept (fun q=>(Value.slice lo l.length lc).ownBlock=some q) w5 w11→(w11.cell? ⟨w.heap.size,0,none⟩=some (.pointer (some ⟨bs,0,none⟩))∧w11.cell? ⟨w.heap.size,1,none⟩=some (.slice (some ⟨pb,poff,none⟩) P.length pc)∧w11.cell? ⟨w.heap.size,2,none⟩=some (.slice ro R.length rc))∧(w11.setCell ⟨kb,3,none⟩ v).cell? ⟨w.heap.size,0,none⟩=some (.pointer (some ⟨bs,0,none⟩))∧(w11.setCell ⟨kb,3,none⟩ v).cell? ⟨w.heap.size,1,none⟩=some (.slice (some ⟨pb,poff,none⟩) P.length pc)∧(w11.setCell ⟨kb,3,none⟩ v).cell? ⟨w.heap.size,2,none⟩=some (.slice ro R.length rc)):=by
      intro w5 w11 v k5 k11
      have hr5:=k5.row hr.out (fun _ _ f=>f)
      have kS:Same0 W1 w11:=Kept.trans (hw1.trans' k5) k11 (fun i hi e=>by have:=(hr5.lt i e).1;omega)
      have kT:Same0 W1 (w11.setCell ⟨kb,3,none⟩ v):=Kept.setCell (p:=⟨kb,3,none⟩) kS (fun hi=>by simp at hi;omega) v
      exact ⟨BX.out _ kS,BX.out _ kT⟩
     have HRW:Hid (∀ ww,Same0 wr ww→ww.ownsRow (kb+1) 185 5 (.slice lo l.length lc) l.length us):=fun ww hk=>hk.row hr.out (fun _ _ f=>f)
     have hzz:Hid (∀ ww,Same0 wr ww→kb+1≤ww.heap.size):=fun ww hk=>by have:=hk.size;omega
     have hl1000:l.length≤1000:=by omega
     clear HS hg GO hK hr hus hN NI hll hhas hz2 hkr
     go_upto_region 7 with (first | (go_at_call 151;refine CH.mono ?_;rintro e w3 ⟨ho,hcc,rfl,hh,hhn,k3⟩))
     have WD:Same0 w3 w3.drew:=(Kept.refl _ _).drew
     have y0:w3.drew.cell? ⟨kb,3,none⟩=some (.slice lo l.length lc):=(BY.out _ (k3.trans' WD)).2
     refine wp_region_held_drew (S:=fun w' => w'.cell? ⟨w.heap.size,0,none⟩=some (.pointer (some ⟨bs,0,none⟩))∧w'.cell? ⟨w.heap.size,1,none⟩=some (.slice (some ⟨pb,poff,none⟩) P.length pc)∧w'.cell? ⟨w.heap.size,2,none⟩=some (.slice ro R.length rc)) (by kernel_rfl) (BY.out _ (k3.trans' WD)).1 (fun hHeld=>?_)
     refine wpAnyH_take (i:=0) (v:=.pointer (some ⟨kb,3,none⟩)) rfl (by kernel_rfl) (by kernel_rfl) (by kernel_rfl) (fun _ _ _ h=>h) (.inl ⟨rfl,fun w' hS=>by simp [go_sem]⟩) hHeld ?_
     refine wpAnyH_take (i:=2) (v:=.int .i64 (k:Int)) rfl (by kernel_rfl) (by kernel_rfl) (by kernel_rfl) (fun _ _ _ h=>h) (.inl ⟨rfl,fun w' hS=>by simp [go_sem]⟩) hHeld ?_
     refine wpAnyH_take (i:=3) (v:=.agg #[.pointer (some ⟨bs,0,none⟩),.slice (some ⟨pb,poff,none⟩) P.length pc,.slice ro R.length rc]) rfl (by kernel_rfl) (by kernel_rfl) (by kernel_rfl) (fun _ _ _ h=>h) (.inl ⟨rfl,fun w' hS=>by simp [go_sem,hS.1,hS.2.1,hS.2.2]⟩) hHeld ?_
     refine wpAnyH_take (i:=4) (v:=.int .i64 (c:Int)) rfl (by kernel_rfl) (by kernel_rfl) (by kernel_rfl) (fun _ _ _ h=>h) (.inl ⟨rfl,fun w' hS=>by simp [go_sem]⟩) hHeld ?_
     refine wpAnyH_take (i:=5) (v:=.int .i64 (k:Int)) rfl (by kernel_rfl) (by kernel_rfl) (by kernel_rfl) (fun _ _ _ h=>h) (.inl ⟨rfl,fun w' hS=>by simp [go_sem]⟩) hHeld ?_
     refine wpAnyH_take (i:=6) (v:=.slice ho (havR R c (k:Int)).length hcc) rfl (by kernel_rfl) (by kernel_rfl) (by kernel_rfl) (fun _ _ _ h=>h) (.inl ⟨rfl,fun w' hS=>by simp [go_sem]⟩) hHeld ?_
     refine wpAnyH_ready (rs:=[1,7]) (by kernel_rfl) (by simp) ?_
     refine AllReadyH.cons rfl (fun K hK=>?_) (AllReadyH.cons rfl (fun K hK=>?_) AllReadyH.nil)
     ·go_simp
      refine hK.out _ _ hHeld (fun hHeld=>?_)
      clear hK K
      refine wpAnyH_ready (rs:=[7]) (by kernel_rfl) (by simp) ?_
      refine AllReadyH.cons rfl (fun K hK=>?_) AllReadyH.nil
      refine step_callx rfl (KO.out w3 ho hcc k3 hh _ WD) (by simp [go_sem]) ?_
      rintro e w4 ⟨vo,vc,xo,xc,rfl,ni,k4⟩
      refine ⟨_,rfl,?_⟩
      have k14:=k3.trans' (WD.trans' k4)
      have y4:=(BY.out _ k14).2
      refine hK.out _ _ (BY.out _ k14).1 (fun hHeld=>?_)
      clear hK K
      refine wpAnyH_ready (rs:=[8]) (by kernel_rfl) (by simp) ?_
      refine AllReadyH.cons rfl (fun K hK=>?_) AllReadyH.nil
      refine step_callx rfl (GE.out w4 vo vc xo xc ni.out) (by simp [go_sem]) ?_
      rintro e w5 ⟨tk,tr,tpo,tpl,tpc,tko,tkl,tkc,rfl,hcs,k5⟩
      refine ⟨_,rfl,?_⟩
      have k15:=k14.trans' k5
      have y5:=(BY.out _ k15).2
      have y6:=(BY.out _ (k15.alloc (.cells #[.int .i64 (k:Int),.int .i64 tk,.int .i64 tr,.slice tpo tpl tpc,.slice tko tkl tkc] 185))).2
      refine hK.out _ _ (BY.out _ k15).1 (fun hHeld=>?_)
      clear hK K
      refine wpAnyH_take (i:=9) (v:=.agg #[.int .i64 (k:Int),.int .i64 tk,.int .i64 tr,.slice tpo tpl tpc,.slice tko tkl tkc]) rfl (by kernel_rfl) (by kernel_rfl) (by kernel_rfl) (fun _ _ _ h=>h) (.inl ⟨rfl,fun w' hS=>by simp [go_sem]⟩) hHeld ?_
      refine wpAnyH_ready (rs:=[10]) (by kernel_rfl) (by simp) ?_
      refine AllReadyH.cons rfl (fun K hK=>?_) AllReadyH.nil
      go_simp
      refine hK.out _ _ (BY.out _ (Kept.alloc k15 _)).1 (fun hHeld=>?_)
      clear hK K
      refine wpAnyH_ready (rs:=[11]) (by kernel_rfl) (by simp) ?_
      refine AllReadyH.cons rfl (fun K hK=>?_) AllReadyH.nil
      refine step_kid (w0:=w5) (by rfl) _ _ (by rfl) (kb+1) l.length us (.slice lo l.length lc) (by rfl) ((Kept.refl _ w5).alloc _) (HRW.out _ k15) (.int .i64 (k:Int)) (.int .i64 tk) (.int .i64 tr) (.slice tpo tpl tpc) (.slice tko tkl tkc) w5.heap.size (by rfl) (heap_alloc_new w5 _) (by rfl) (by rfl) (by rfl) (by rfl) (by rfl) (hzz.out _ k15) hl1000 ?_
      intro g cap w11 r11 k11 hat
      obtain ⟨⟨y1,y2⟩,FF⟩:=FIN.out w4 w5 _ _ _ _ g cap w11 k14 k5 hcs.out r11 k11 hat
      obtain ⟨e11,f11⟩:=FS.out w5 w11 (.slice (some ⟨g,0,none⟩) (l.length+1) cap) k15 k11
      refine hK.out _ _ e11 (fun hHeld=>?_)
      clear hK K
      refine wpAnyH_take (i:=12) (v:=.pointer (some ⟨kb,3,none⟩)) rfl (by kernel_rfl) (by kernel_rfl) (by kernel_rfl) (fun _ _ _ h=>h) (.inl ⟨rfl,fun w' hS=>by simp [go_sem]⟩) hHeld ?_
      refine wpAnyH_ready (rs:=[13]) (by kernel_rfl) (by simp) ?_
      refine AllReadyH.cons rfl (fun K hK=>?_) AllReadyH.nil
      go_simp
      refine hK.out _ _ f11 (fun hHeld=>?_)
      clear hK K
      refine wpAnyH_done (by kernel_rfl) ?_ _
      go_wp2_with fail
      obtain ⟨us', l', z1,z2,z3,z4,z5⟩:=FF.out
      exact ⟨⟨k+1,_,us', l', by omega,by go_num,z1,z2,z3,z4,z5⟩,by simp [intOf];omega⟩
     ·refine step_callx rfl (KO.out w3 ho hcc k3 hh _ WD) (by simp [go_sem]) ?_
      rintro e w4 ⟨vo,vc,xo,xc,rfl,ni,k4⟩
      refine ⟨_,rfl,?_⟩
      have k14:=k3.trans' (WD.trans' k4)
      have y4:=(BY.out _ k14).2
      refine hK.out _ _ (BY.out _ k14).1 (fun hHeld=>?_)
      clear hK K
      refine wpAnyH_ready (rs:=[1,8]) (by kernel_rfl) (by simp) ?_
      refine AllReadyH.cons rfl (fun K hK=>?_) (AllReadyH.cons rfl (fun K hK=>?_) AllReadyH.nil)
      ·go_simp
       refine hK.out _ _ hHeld (fun hHeld=>?_)
       clear hK K
       refine wpAnyH_ready (rs:=[8]) (by kernel_rfl) (by simp) ?_
       refine AllReadyH.cons rfl (fun K hK=>?_) AllReadyH.nil
       refine step_callx rfl (GE.out w4 vo vc xo xc ni.out) (by simp [go_sem]) ?_
       rintro e w5 ⟨tk,tr,tpo,tpl,tpc,tko,tkl,tkc,rfl,hcs,k5⟩
       refine ⟨_,rfl,?_⟩
       have k15:=k14.trans' k5
       have y5:=(BY.out _ k15).2
       have y6:=(BY.out _ (k15.alloc (.cells #[.int .i64 (k:Int),.int .i64 tk,.int .i64 tr,.slice tpo tpl tpc,.slice tko tkl tkc] 185))).2
       refine hK.out _ _ (BY.out _ k15).1 (fun hHeld=>?_)
       clear hK K
       refine wpAnyH_take (i:=9) (v:=.agg #[.int .i64 (k:Int),.int .i64 tk,.int .i64 tr,.slice tpo tpl tpc,.slice tko tkl tkc]) rfl (by kernel_rfl) (by kernel_rfl) (by kernel_rfl) (fun _ _ _ h=>h) (.inl ⟨rfl,fun w' hS=>by simp [go_sem]⟩) hHeld ?_
       refine wpAnyH_ready (rs:=[10]) (by kernel_rfl) (by simp) ?_
       refine AllReadyH.cons rfl (fun K hK=>?_) AllReadyH.nil
       go_simp
       refine hK.out _ _ (BY.out _ (Kept.alloc k15 _)).1 (fun hHeld=>?_)
       clear hK K
       refine wpAnyH_ready (rs:=[11]) (by kernel_rfl) (by simp) ?_
       refine AllReadyH.cons rfl (fun K hK=>?_) AllReadyH.nil
       refine step_kid (w0:=w5) (by rfl) _ _ (by rfl) (kb+1) l.length us (.slice lo l.length lc) (by rfl) ((Kept.refl _ w5).alloc _) (HRW.out _ k15) (.int .i64 (k:Int)) (.int .i64 tk) (.int .i64 tr) (.slice tpo tpl tpc) (.slice tko tkl tkc) w5.heap.size (by rfl) (heap_alloc_new w5 _) (by rfl) (by rfl) (by rfl) (by rfl) (by rfl) (hzz.out _ k15) hl1000 ?_
       intro g cap w11 r11 k11 hat
       obtain ⟨⟨y1,y2⟩,FF⟩:=FIN.out w4 w5 _ _ _ _ g cap w11 k14 k5 hcs.out r11 k11 hat
       obtain ⟨e11,f11⟩:=FS.out w5 w11 (.slice (some ⟨g,0,none⟩) (l.length+1) cap) k15 k11
       refine hK.out _ _ e11 (fun hHeld=>?_)
       clear hK K
       refine wpAnyH_take (i:=12) (v:=.pointer (some ⟨kb,3,none⟩)) rfl (by kernel_rfl) (by kernel_rfl) (by kernel_rfl) (fun _ _ _ h=>h) (.inl ⟨rfl,fun w' hS=>by simp [go_sem]⟩) hHeld ?_
       refine wpAnyH_ready (rs:=[13]) (by kernel_rfl) (by simp) ?_
       refine AllReadyH.cons rfl (fun K hK=>?_) AllReadyH.nil
       go_simp
       refine hK.out _ _ f11 (fun hHeld=>?_)
       clear hK K
       refine wpAnyH_done (by kernel_rfl) ?_ _
       go_wp2_with fail
       obtain ⟨us', l', z1,z2,z3,z4,z5⟩:=FF.out
       exact ⟨⟨k+1,_,us', l', by omega,by go_num,z1,z2,z3,z4,z5⟩,by simp [intOf];omega⟩
      ·refine step_callx rfl (GE.out w4 vo vc xo xc ni.out) (by simp [go_sem]) ?_
       rintro e w5 ⟨tk,tr,tpo,tpl,tpc,tko,tkl,tkc,rfl,hcs,k5⟩
       refine ⟨_,rfl,?_⟩
       have k15:=k14.trans' k5
       have y5:=(BY.out _ k15).2
       have y6:=(BY.out _ (k15.alloc (.cells #[.int .i64 (k:Int),.int .i64 tk,.int .i64 tr,.slice tpo tpl tpc,.slice tko tkl tkc] 185))).2
       refine hK.out _ _ (BY.out _ k15).1 (fun hHeld=>?_)
       clear hK K
       refine wpAnyH_take (i:=9) (v:=.agg #[.int .i64 (k:Int),.int .i64 tk,.int .i64 tr,.slice tpo tpl tpc,.slice tko tkl tkc]) rfl (by kernel_rfl) (by kernel_rfl) (by kernel_rfl) (fun _ _ _ h=>h) (.inl ⟨rfl,fun w' hS=>by simp [go_sem]⟩) hHeld ?_
       refine wpAnyH_ready (rs:=[1,10]) (by kernel_rfl) (by simp) ?_
       refine AllReadyH.cons rfl (fun K hK=>?_) (AllReadyH.cons rfl (fun K hK=>?_) AllReadyH.nil)
       ·go_simp
        refine hK.out _ _ hHeld (fun hHeld=>?_)
        clear hK K
        refine wpAnyH_ready (rs:=[10]) (by kernel_rfl) (by simp) ?_
        refine AllReadyH.cons rfl (fun K hK=>?_) AllReadyH.nil
        go_simp
        refine hK.out _ _ (BY.out _ (Kept.alloc k15 _)).1 (fun hHeld=>?_)
        clear hK K
        refine wpAnyH_ready (rs:=[11]) (by kernel_rfl) (by simp) ?_
        refine AllReadyH.cons rfl (fun K hK=>?_) AllReadyH.nil
        refine step_kid (w0:=w5) (by rfl) _ _ (by rfl) (kb+1) l.length us (.slice lo l.length lc) (by rfl) ((Kept.refl _ w5).alloc _) (HRW.out _ k15) (.int .i64 (k:Int)) (.int .i64 tk) (.int .i64 tr) (.slice tpo tpl tpc) (.slice tko tkl tkc) w5.heap.size (by rfl) (heap_alloc_new w5 _) (by rfl) (by rfl) (by rfl) (by rfl) (by rfl) (hzz.out _ k15) hl1000 ?_
        intro g cap w11 r11 k11 hat
        obtain ⟨⟨y1,y2⟩,FF⟩:=FIN.out w4 w5 _ _ _ _ g cap w11 k14 k5 hcs.out r11 k11 hat
        obtain ⟨e11,f11⟩:=FS.out w5 w11 (.slice (some ⟨g,0,none⟩) (l.length+1) cap) k15 k11
        refine hK.out _ _ e11 (fun hHeld=>?_)
        clear hK K
        refine wpAnyH_take (i:=12) (v:=.pointer (some ⟨kb,3,none⟩)) rfl (by kernel_rfl) (by kernel_rfl) (by kernel_rfl) (fun _ _ _ h=>h) (.inl ⟨rfl,fun w' hS=>by simp [go_sem]⟩) hHeld ?_
        refine wpAnyH_ready (rs:=[13]) (by kernel_rfl) (by simp) ?_
        refine AllReadyH.cons rfl (fun K hK=>?_) AllReadyH.nil
        go_simp
        refine hK.out _ _ f11 (fun hHeld=>?_)
        clear hK K
        refine wpAnyH_done (by kernel_rfl) ?_ _
        go_wp2_with fail
        obtain ⟨us', l', z1,z2,z3,z4,z5⟩:=FF.out
        exact ⟨⟨k+1,_,us', l', by omega,by go_num,z1,z2,z3,z4,z5⟩,by simp [intOf];omega⟩
       ·go_simp
        refine hK.out _ _ (BY.out _ (Kept.alloc k15 _)).1 (fun hHeld=>?_)
        clear hK K
        refine wpAnyH_ready (rs:=[1]) (by kernel_rfl) (by simp) ?_
        refine AllReadyH.cons rfl (fun K hK=>?_) AllReadyH.nil
        go_simp
        refine hK.out _ _ hHeld (fun hHeld=>?_)
        clear hK K
        refine wpAnyH_ready (rs:=[11]) (by kernel_rfl) (by simp) ?_
        refine AllReadyH.cons rfl (fun K hK=>?_) AllReadyH.nil
        refine step_kid (w0:=w5) (by rfl) _ _ (by rfl) (kb+1) l.length us (.slice lo l.length lc) (by rfl) ((Kept.refl _ w5).alloc _) (HRW.out _ k15) (.int .i64 (k:Int)) (.int .i64 tk) (.int .i64 tr) (.slice tpo tpl tpc) (.slice tko tkl tkc) w5.heap.size (by rfl) (heap_alloc_new w5 _) (by rfl) (by rfl) (by rfl) (by rfl) (by rfl) (hzz.out _ k15) hl1000 ?_
        intro g cap w11 r11 k11 hat
        obtain ⟨⟨y1,y2⟩,FF⟩:=FIN.out w4 w5 _ _ _ _ g cap w11 k14 k5 hcs.out r11 k11 hat
        obtain ⟨e11,f11⟩:=FS.out w5 w11 (.slice (some ⟨g,0,none⟩) (l.length+1) cap) k15 k11
        refine hK.out _ _ e11 (fun hHeld=>?_)
        clear hK K
        refine wpAnyH_take (i:=12) (v:=.pointer (some ⟨kb,3,none⟩)) rfl (by kernel_rfl) (by kernel_rfl) (by kernel_rfl) (fun _ _ _ h=>h) (.inl ⟨rfl,fun w' hS=>by simp [go_sem]⟩) hHeld ?_
        refine wpAnyH_ready (rs:=[13]) (by kernel_rfl) (by simp) ?_
        refine AllReadyH.cons rfl (fun K hK=>?_) AllReadyH.nil
        go_simp
        refine hK.out _ _ f11 (fun hHeld=>?_)
        clear hK K
        refine wpAnyH_done (by kernel_rfl) ?_ _
        go_wp2_with fail
        obtain ⟨us', l', z1,z2,z3,z4,z5⟩:=FF.out
        exact ⟨⟨k+1,_,us', l', by omega,by go_num,z1,z2,z3,z4,z5⟩,by simp [intOf];omega⟩
   ·have HS:Hid (KidsF L n P R c (k+1)=.ok l):=by
     have:=hK.out
     unfold KidsF at this
     show KidsF L n P R c (k+1)=.ok l
     unfold KidsF
     rw [kidsN,this]
     simp only [hhas,decide_false,Bool.false_eq_true,if_false]
    have hl0:(havR R c (k:Int)).length=0:=by omega
    rw [hl0] at CH
    have HK2:Hid (∀ w3,Same0 wr w3→Hid (w3.heap[kb]? = some (.cells #[.int .i64 2,.int .i64 0,.slice qo P[c].length qc,.slice lo l.length lc] 25 (0,0)))∧Hid (w3.ownsRow (kb+1) 185 5 (.slice lo l.length lc) l.length us)∧Hid (KCells (fun b=>kb<b∧(Value.slice lo l.length lc).ownBlock≠some b) w3 n us l)):=fun w3 k3=>⟨k3.at0 hN.out,k3.row hr.out (fun _ _ f=>f),hus.out.kept k3 (fun _ _ f=>f)⟩
    clear hK hN hr hus NI hhas hl0 hll
    go_wp2_with (first | (go_at_call 151;refine CH.mono ?_;rintro e w3 ⟨ho,hcc,rfl,hh,hhn,k3⟩))
    obtain ⟨z1,z2,z3⟩:=HK2.out w3 k3
    exact ⟨⟨k+1,_,us,l,by omega,by go_num,HS,z1,z2,z3,hw.trans' k3⟩,by simp [intOf];omega⟩
  ·obtain rfl:k=L.length:=by omega
   have hN' := hN.out
   have rs:=RS.out wr hw1
   have n0:=cellAt hN' 0
   have n1:=cellAt hN' 1
   have n2:=cellAt hN' 2
   have n3:=cellAt hN' 3
   have q0:=cellAt rs 0
   have q1:=cellAt rs 1
   have q2:=cellAt rs 2
   have q3:=cellAt rs 3
   have f0:=frozenAt rs 0
   have f1:=frozenAt rs 1
   have f2:=frozenAt rs 2
   have f3:=frozenAt rs 3
   simp only [List.getElem?_toArray,List.getElem?_cons_zero,List.getElem?_cons_succ] at n0 n1 n2 n3 q0 q1 q2 q3
   have s3:=setAt (setAt (setAt (setAt rs 0 (.int .i64 2)) 1 (.int .i64 0)) 2 (.slice qo P[c].length qc)) 3 (.slice lo l.length lc)
   have GG:Hid ((((((wr.setCell ⟨w.heap.size+1,0,none⟩ (.int .i64 2)).setCell ⟨w.heap.size+1,1,none⟩ (.int .i64 0)).setCell ⟨w.heap.size+1,2,none⟩ (.slice qo P[c].length qc)).setCell ⟨w.heap.size+1,3,none⟩ (.slice lo l.length lc))).cell? ⟨w.heap.size+1,0,none⟩=some (.int .i64 2)∧(((((wr.setCell ⟨w.heap.size+1,0,none⟩ (.int .i64 2)).setCell ⟨w.heap.size+1,1,none⟩ (.int .i64 0)).setCell ⟨w.heap.size+1,2,none⟩ (.slice qo P[c].length qc)).setCell ⟨w.heap.size+1,3,none⟩ (.slice lo l.length lc))).cell? ⟨w.heap.size+1,1,none⟩=some (.int .i64 0)∧(((((wr.setCell ⟨w.heap.size+1,0,none⟩ (.int .i64 2)).setCell ⟨w.heap.size+1,1,none⟩ (.int .i64 0)).setCell ⟨w.heap.size+1,2,none⟩ (.slice qo P[c].length qc)).setCell ⟨w.heap.size+1,3,none⟩ (.slice lo l.length lc))).cell? ⟨w.heap.size+1,2,none⟩=some (.slice qo P[c].length qc)∧(((((wr.setCell ⟨w.heap.size+1,0,none⟩ (.int .i64 2)).setCell ⟨w.heap.size+1,1,none⟩ (.int .i64 0)).setCell ⟨w.heap.size+1,2,none⟩ (.slice qo P[c].length qc)).setCell ⟨w.heap.size+1,3,none⟩ (.slice lo l.length lc))).cell? ⟨w.heap.size+1,3,none⟩=some (.slice lo l.length lc)):=⟨cellAt s3 0,cellAt s3 1,cellAt s3 2,cellAt s3 3⟩
   have FIN:Hid (TreeOut w (BrF L n P R c) (.returned (.agg #[.int .i64 2,.int .i64 0,.slice qo P[c].length qc,.slice lo l.length lc])) (((((wr.setCell ⟨w.heap.size+1,0,none⟩ (.int .i64 2)).setCell ⟨w.heap.size+1,1,none⟩ (.int .i64 0)).setCell ⟨w.heap.size+1,2,none⟩ (.slice qo P[c].length qc)).setCell ⟨w.heap.size+1,3,none⟩ (.slice lo l.length lc)))):=by
    have e1:BrF L n P R c=.ok (2,0,P.getD c [],l):=by unfold BrF;rw [hK.out]
    rw [e1]
    have kk:Kept (fun q=>q=w.heap.size+1) wr (((((wr.setCell ⟨w.heap.size+1,0,none⟩ (.int .i64 2)).setCell ⟨w.heap.size+1,1,none⟩ (.int .i64 0)).setCell ⟨w.heap.size+1,2,none⟩ (.slice qo P[c].length qc)).setCell ⟨w.heap.size+1,3,none⟩ (.slice lo l.length lc))):=by
     have k1:=Kept.setCell (p:=⟨w.heap.size+1,0,none⟩) (Kept.refl (fun q=>q=w.heap.size+1) wr) (fun _=>rfl) (.int .i64 2)
     have k2:=Kept.setCell (p:=⟨w.heap.size+1,1,none⟩) k1 (fun _=>rfl) (.int .i64 0)
     have k3:=Kept.setCell (p:=⟨w.heap.size+1,2,none⟩) k2 (fun _=>rfl) (.slice qo P[c].length qc)
     exact Kept.setCell (p:=⟨w.heap.size+1,3,none⟩) k3 (fun _=>rfl) (.slice lo l.length lc)
    have hcs:=branch_cs (B:=fun b=>W1.heap.size≤b) hr.out (hus.out.mono (fun b hb q=>by have:=q.1;omega)) (fun b e=>by have:=(hr.out.lt b e).1;omega) (HQ.out wr hw) HQB.out 2 0
    rw [HLP.out]
    refine ⟨_,rfl,CsB.mono (fun b hb q=>by have:=q;omega) (CsB.kept kk (fun b q e=>by have:W1.heap.size≤b:=q;omega) hcs),Kept.trans (KW.trans' hw1) kk (fun i hi e=>by omega)⟩
   clear hN hr hus hN' rs s3 hK
   go_wp2
   obtain ⟨g0,g1,g2,g3⟩:=GG.out
   exact bodyPost_ret (v:=.agg #[.int .i64 2,.int .i64 0,.slice qo P[c].length qc,.slice lo l.length lc]) (by simp [results,Tryz.results114,go_sem,g0,g1,g2,g3]) rfl FIN.out
theorem growF_zero {L:List Sym} {n:Nat} {P:List (List Int)} {R:List Rw} (h:R.length=0):growF L (n+1) P R=.ok (3,0,[],[]):=by
 rw [growF,if_pos h]
theorem growF_branch {L:List Sym} {n:Nat} {P:List (List Int)} {R:List Rw} (h:¬ R.length=0) {c:Nat} (hc:partN R P.length=some c):growF L (n+1) P R=BrF L n P R c:=by
 rw [growF,if_neg h,hc]
 unfold BrF KidsF
 rfl
theorem growF_leaf {L:List Sym} {n:Nat} {P:List (List Int)} {R:List Rw} (h1:R.length=1) (hc:partN R P.length=none):growF L (n+1) P R=.ok (1,(R.headD (0,[],[])).1,[],[]):=by
 rw [growF,if_neg (by omega),hc,if_pos h1]
theorem growF_fork {L:List Sym} {n:Nat} {P:List (List Int)} {R:List Rw} (h:¬ R.length=0) (h1:¬ R.length=1) (hc:partN R P.length=none):growF L (n+1) P R=.error (R.headD (0,[],[])).1:=by
 rw [growF,if_neg h,hc,if_neg h1]
theorem leaf_cs (B:Nat→Prop) (w:World) (n:Nat) (k r:Int):CsB B w (n+1) (.agg #[.int .i64 k,.int .i64 r,.slice none 0 0,.slice none 0 0]) (k,r,[],[]):=
 ⟨none,0,none,0,rfl,⟨.inl rfl,Nat.le_refl _,fun _=>⟨rfl,rfl⟩,by simp⟩,.inl rfl,fun _=>rfl,Nat.le_refl _,.inl rfl⟩
set_option maxHeartbeats 16000000 in
theorem grow_step {L:List Sym} {n:Nat} (IH:GrowIH L n):GrowIH L (n+1):=by
 intro w bs po pc P ro rc R h
 have hle:=h.ok.le
 have CPP:=fun ww (hk:Same0 w ww)=>parting_any (bs:=bs) (po:=po) (pc:=pc) (rc:=rc) (h.rs.same hk) h.ok.rows hle h.ok.few
 have CBB:=fun c (hc:c<P.length) ww (hk:Same0 w ww)=>branch_any IH (rc:=rc) (h.same hk) hc
 obtain ⟨N,hN⟩:∃ N,N=R.length:=⟨_,rfl⟩
 have HN:Hid (N=R.length):=hN
 rw [← hN] at CPP CBB ⊢
 obtain ⟨W1,hW1⟩:∃ W1,W1=(w.alloc (.cells #[.pointer (some ⟨bs,0,none⟩),.slice po P.length pc,.slice ro N rc] 163)).alloc zeroCs:=⟨_,rfl⟩
 have KW:Same0 w W1:=by rw [hW1];exact ((Kept.refl _ w).alloc _).alloc _
 have ez:w.heap.size+1<W1.heap.size:=by rw [hW1];simp
 have HH:Hid (∀ ww,Same0 W1 ww→NdIn ww L (n+1) bs po pc P ro R):=fun ww hk=>h.same (KW.trans' hk)
 have BX:Hid (∀ ww,Same0 W1 ww→ww.cell? ⟨w.heap.size,0,none⟩=some (.pointer (some ⟨bs,0,none⟩))∧ww.cell? ⟨w.heap.size,1,none⟩=some (.slice po P.length pc)∧ww.cell? ⟨w.heap.size,2,none⟩=some (.slice ro N rc)):=fun ww hk=>by
  have hb:W1.heap[w.heap.size]? = some (.cells #[.pointer (some ⟨bs,0,none⟩),.slice po P.length pc,.slice ro N rc] 163 (0,0)):=by rw [hW1];exact heap_alloc2_old _ _ _
  exact ⟨cellAt (hk.at0 hb) 0,cellAt (hk.at0 hb) 1,cellAt (hk.at0 hb) 2⟩
 have RS:Hid (∀ ww,Same0 W1 ww→ww.heap[w.heap.size+1]? = some (.cells #[.int .i64 0,.int .i64 0,.slice none 0 0,.slice none 0 0] 25 (0,0))):=fun ww hk=>hk.at0 (by rw [hW1];exact heap_al_al _ _ _)
 have RC:Hid (∀ ww,Same0 W1 ww→(ww.cell? ⟨w.heap.size+1,0,none⟩=some (.int .i64 0)∧ww.cell? ⟨w.heap.size+1,1,none⟩=some (.int .i64 0)∧ww.cell? ⟨w.heap.size+1,2,none⟩=some (.slice none 0 0)∧ww.cell? ⟨w.heap.size+1,3,none⟩=some (.slice none 0 0))∧ww.frozen? ⟨w.heap.size+1,0,none⟩=false∧ww.frozen? ⟨w.heap.size+1,1,none⟩=false∧ww.frozen? ⟨w.heap.size+1,2,none⟩=false∧ww.frozen? ⟨w.heap.size+1,3,none⟩=false):=fun ww hk=>by
  have rs:=RS.out ww hk
  exact ⟨⟨cellAt rs 0,cellAt rs 1,cellAt rs 2,cellAt rs 3⟩,frozenAt rs 0,frozenAt rs 1,frozenAt rs 2,frozenAt rs 3⟩
 have PUT:Hid (∀ ww x0 x1 x2 x3,Same0 W1 ww→((((((ww.setCell ⟨w.heap.size+1,0,none⟩ x0).setCell ⟨w.heap.size+1,1,none⟩ x1).setCell ⟨w.heap.size+1,2,none⟩ x2).setCell ⟨w.heap.size+1,3,none⟩ x3).cell? ⟨w.heap.size+1,0,none⟩=some x0)∧((((ww.setCell ⟨w.heap.size+1,0,none⟩ x0).setCell ⟨w.heap.size+1,1,none⟩ x1).setCell ⟨w.heap.size+1,2,none⟩ x2).setCell ⟨w.heap.size+1,3,none⟩ x3).cell? ⟨w.heap.size+1,1,none⟩=some x1∧((((ww.setCell ⟨w.heap.size+1,0,none⟩ x0).setCell ⟨w.heap.size+1,1,none⟩ x1).setCell ⟨w.heap.size+1,2,none⟩ x2).setCell ⟨w.heap.size+1,3,none⟩ x3).cell? ⟨w.heap.size+1,2,none⟩=some x2∧((((ww.setCell ⟨w.heap.size+1,0,none⟩ x0).setCell ⟨w.heap.size+1,1,none⟩ x1).setCell ⟨w.heap.size+1,2,none⟩ x2).setCell ⟨w.heap.size+1,3,none⟩ x3).cell? ⟨w.heap.size+1,3,none⟩=some x3)∧Kept (fun q=>q=w.heap.size+1) ww ((((ww.setCell ⟨w.heap.size+1,0,none⟩ x0).setCell ⟨w.heap.size+1,1,none⟩ x1).setCell ⟨w.heap.size+1,2,none⟩ x2).setCell ⟨w.heap.size+1,3,none⟩ x3)∧Same0 w ((((ww.setCell ⟨w.heap.size+1,0,none⟩ x0).setCell ⟨w.heap.size+1,1,none⟩ x1).setCell ⟨w.heap.size+1,2,none⟩ x2).setCell ⟨w.heap.size+1,3,none⟩ x3)):=by
  intro ww x0 x1 x2 x3 hk
  have rs:=RS.out ww hk
  have s3:=setAt (setAt (setAt (setAt rs 0 x0) 1 x1) 2 x2) 3 x3
  have k1:=Kept.setCell (p:=⟨w.heap.size+1,0,none⟩) (Kept.refl (fun q=>q=w.heap.size+1) ww) (fun _=>rfl) x0
  have k2:=Kept.setCell (p:=⟨w.heap.size+1,1,none⟩) k1 (fun _=>rfl) x1
  have k3:=Kept.setCell (p:=⟨w.heap.size+1,2,none⟩) k2 (fun _=>rfl) x2
  have k4:=Kept.setCell (p:=⟨w.heap.size+1,3,none⟩) k3 (fun _=>rfl) x3
  exact ⟨⟨cellAt s3 0,cellAt s3 1,cellAt s3 2,cellAt s3 3⟩,k4,Kept.trans (KW.trans' hk) k4 (fun i hi e=>by omega)⟩
 have CP:=CPP W1 KW
 obtain ⟨b0,b1,b2⟩:=BX.out W1 (Kept.refl _ _)
 have HR0:Hid (0<R.length→∃ b off,ro=some ⟨b,off,none⟩∧∀ ww,Same0 W1 ww→ww.cell? ⟨b,off,none⟩=some (.int .i64 (R.headD (0,[],[])).1)):=fun hp=>by
  obtain ⟨b,off,e,hb,ao,ac,bo,bc,r0,_⟩:=h.rs.get hp
  refine ⟨b,off,e,fun ww hk=>?_⟩
  have r0' : w.cell? ⟨b,off,none⟩=some (.int .i64 R[0].1):=by simpa using r0
  have e2:R.headD (0,[],[])=R[0]:=by
   cases R with
   | nil=>simp at hp
   | cons x r=>rfl
  rw [e2]
  exact ((KW.trans' hk).cell (p:=⟨b,off,none⟩) hb (fun f=>f)).trans r0'
 by_cases h0:N=0
 ·have hg:=growF_zero (L:=L) (n:=n) (P:=P) (by rw [← HN.out];exact h0)
  rw [hg]
  clear h hg HH CPP CBB HN hN HR0
  subst h0
  generalize partI R P.length=z at *
  go_enter Tryz.func73,Tryz.ntmps73
  go_upto_region 1 with fail
  rw [← hW1]
  clear hW1
  go_upto_region 3 with (first | (go_at_call 113;refine CP.mono ?_;rintro e w2 ⟨rfl,k2⟩;obtain ⟨c0,c1,c2⟩:=BX.out w2 k2;obtain ⟨⟨r0,r1,r2,r3⟩,f0,f1,f2,f3⟩:=RC.out w2 k2))
  go_wp2
  obtain ⟨⟨g0,g1,g2,g3⟩,kk,ks⟩:=PUT.out w2 (.int .i64 3) (.int .i64 0) (.slice none 0 0) (.slice none 0 0) k2
  exact bodyPost_ret (v:=.agg #[.int .i64 3,.int .i64 0,.slice none 0 0,.slice none 0 0]) (by simp [results,Tryz.results73,go_sem,g0,g1,g2,g3]) rfl ⟨_,rfl,leaf_cs _ _ _ _ _,ks⟩
 ·have hb0:((N:Int) == 0)=false:=by simpa using h0
  have hR0:¬ R.length=0:=by rw [← HN.out];exact h0
  cases hp:partN R P.length with
  | some c=>
   obtain ⟨hc,_⟩:=partN_some hp
   have hz:partI R P.length=(c:Int):=by unfold partI;rw [hp]
   rw [hz] at CP
   rw [growF_branch hR0 hp]
   have i1:(0:Int)≤(c:Int):=by omega
   have CB:Hid (∀ ww,Same0 W1 ww→Calls Tryz.prog 114 #[.agg #[.pointer (some ⟨bs,0,none⟩),.slice po P.length pc,.slice ro N rc],.int .i64 (c:Int)] ww (TreeOut ww (BrF L n P R c))):=fun ww hk=>CBB c hc ww (KW.trans' hk)
   cases hbr:BrF L n P R c with
   | ok t=>
    rw [hbr] at CB
    have CB2:Hid (∀ ww,Same0 W1 ww→Calls Tryz.prog 114 #[.agg #[.pointer (some ⟨bs,0,none⟩),.slice po P.length pc,.slice ro N rc],.int .i64 (c:Int)] ww fun e w' => ∃ tk tr tpo tpl tpc tko tkl tkc,e=.returned (.agg #[.int .i64 tk,.int .i64 tr,.slice tpo tpl tpc,.slice tko tkl tkc])∧Hid (CsB (fun b=>ww.heap.size≤b) w' (n+1) (.agg #[.int .i64 tk,.int .i64 tr,.slice tpo tpl tpc,.slice tko tkl tkc]) t)∧Same0 ww w'):=fun ww hk=>by
     refine (CB.out ww hk).mono ?_
     rintro e w' ⟨v,rfl,h1,h2⟩
     obtain ⟨tk,tr,tpo,tpl,tpc,tko,tkl,tkc,rfl⟩:=h1.shape
     exact ⟨tk,tr,tpo,tpl,tpc,tko,tkl,tkc,rfl,h1,h2⟩
    clear h HH CPP CBB HN hN hR0 CB hbr hp hz h0 HR0
    go_enter Tryz.func73,Tryz.ntmps73
    go_upto_region 1 with fail
    rw [← hW1]
    clear hW1
    go_upto_region 5 with (first | (go_at_call 113;refine CP.mono ?_;rintro e w2 ⟨rfl,k2⟩;obtain ⟨c0,c1,c2⟩:=BX.out w2 k2))
    have CB3:=CB2.out w2 k2
    go_wp2_with (first | (go_at_call 114;refine CB3.mono ?_;rintro e w3 ⟨tk,tr,tpo,tpl,tpc,tko,tkl,tkc,rfl,hcs,k3⟩;obtain ⟨⟨r0,r1,r2,r3⟩,f0,f1,f2,f3⟩:=RC.out w3 (k2.trans' k3)))
    obtain ⟨⟨g0,g1,g2,g3⟩,kk,ks⟩:=PUT.out w3 (.int .i64 tk) (.int .i64 tr) (.slice tpo tpl tpc) (.slice tko tkl tkc) (k2.trans' k3)
    have z2:=k2.size
    exact bodyPost_ret (v:=.agg #[.int .i64 tk,.int .i64 tr,.slice tpo tpl tpc,.slice tko tkl tkc]) (by simp [results,Tryz.results73,go_sem,g0,g1,g2,g3]) rfl ⟨_,rfl,CsB.mono (fun b hb q=>by have:w2.heap.size≤b:=q;omega) (CsB.kept kk (fun b q e=>by have:w2.heap.size≤b:=q;omega) hcs.out),ks⟩
   | error z=>
    rw [hbr] at CB
    have CB2:Hid (∀ ww,Same0 W1 ww→Calls Tryz.prog 114 #[.agg #[.pointer (some ⟨bs,0,none⟩),.slice po P.length pc,.slice ro N rc],.int .i64 (c:Int)] ww fun e w' => ∃ b,e=.panicked [{ v:=.iface 123 (.pointer (some ⟨b,0,none⟩)),recovered:=false }]∧Hid (w'.heap[b]? = some (.cells #[.int .i64 82,.int .i64 z,.nilIface] 125 (0,0)))∧Same0 ww w'):=fun ww hk=>by
     refine (CB.out ww hk).mono ?_
     rintro e w' ⟨⟨b,h1,h2⟩,h3⟩
     exact ⟨b,h1,h2,h3⟩
    clear h HH CPP CBB HN hN hR0 CB hbr hp hz h0 HR0
    go_enter Tryz.func73,Tryz.ntmps73
    go_upto_region 1 with fail
    rw [← hW1]
    clear hW1
    go_upto_region 5 with (first | (go_at_call 113;refine CP.mono ?_;rintro e w2 ⟨rfl,k2⟩;obtain ⟨c0,c1,c2⟩:=BX.out w2 k2))
    have CB3:=CB2.out w2 k2
    go_wp2_with (first | (go_at_call 114;refine CB3.mono ?_;rintro e w3 ⟨b,rfl,hb,k3⟩))
    exact ⟨rfl,⟨b,rfl,hb.out⟩,(KW.trans' k2).trans' k3⟩
  | none=>
   have hz:partI R P.length = -1:=by unfold partI;rw [hp]
   rw [hz] at CP
   obtain ⟨rb,roff,rfl,HRC⟩:=HR0.out (by omega)
   have HRD:Hid (∀ ww,Same0 W1 ww→ww.cell? ⟨rb,roff,none⟩=some (.int .i64 (R.headD (0,[],[])).1)):=HRC
   have i1:(0:Int)<(N:Int):=by omega
   by_cases h1:N=1
   ·rw [growF_leaf (by rw [← HN.out];exact h1) hp]
    have hb1:((N:Int) == 1)=true:=by subst h1;rfl
    clear h HH CPP CBB HN hN hR0 hp hz h0 HRC HR0 h1
    generalize (R.headD (0,[],[])).1=z at *
    go_enter Tryz.func73,Tryz.ntmps73
    go_upto_region 1 with fail
    rw [← hW1]
    clear hW1
    go_upto_region 7 with (first | (go_at_call 113;refine CP.mono ?_;rintro e w2 ⟨rfl,k2⟩;obtain ⟨c0,c1,c2⟩:=BX.out w2 k2))
    obtain ⟨⟨r0,r1,r2,r3⟩,f0,f1,f2,f3⟩:=RC.out w2 k2
    have d0:=HRD.out w2 k2
    go_wp2
    obtain ⟨⟨g0,g1,g2,g3⟩,kk,ks⟩:=PUT.out w2 (.int .i64 1) (.int .i64 z) (.slice none 0 0) (.slice none 0 0) k2
    exact bodyPost_ret (v:=.agg #[.int .i64 1,.int .i64 z,.slice none 0 0,.slice none 0 0]) (by simp [results,Tryz.results73,go_sem,g0,g1,g2,g3]) rfl ⟨_,rfl,leaf_cs _ _ _ _ _,ks⟩
   ·rw [growF_fork hR0 (by rw [← HN.out];exact h1) hp]
    have hb1:((N:Int) == 1)=false:=by simp;omega
    clear h HH CPP CBB HN hN hR0 hp hz h0 HRC HR0 h1
    generalize (R.headD (0,[],[])).1=z at *
    go_enter Tryz.func73,Tryz.ntmps73
    go_upto_region 1 with fail
    rw [← hW1]
    clear hW1
    go_upto_region 8 with (first | (go_at_call 113;refine CP.mono ?_;rintro e w2 ⟨rfl,k2⟩;obtain ⟨c0,c1,c2⟩:=BX.out w2 k2))
    have d0:=HRD.out w2 k2
    go_wp2
    exact ⟨rfl,⟨_,rfl,heap_alloc_new w2 _⟩,Kept.alloc (KW.trans' k2) _⟩
theorem tgrow_any (L:List Sym):∀ n,GrowIH L n
 | 0=>fun w bs po pc P ro rc R h=>absurd h.ok.pos (Nat.lt_irrefl 0)
 | n+1=>grow_step (tgrow_any L n)
end Go.Proofs.YtdhiiicppcgkbaaGreat
