import Derived.WalkKit
import Derived.Test.YtmjgnfkbnofjoaaGreatDoorRN09
namespace Go.Proofs.YtmjgnfkbnofjoaaGreatDoor
open Go.Proofs.Tryz
set_option maxRecDepth 100000
set_option linter.unusedVariables false
set_option maxHeartbeats 16000000
variable {P:List (List Int)} {t:List Int} {R l:List Ru} {L:List Sym} {ac b bs c m mc n:Nat} {ao mo ro:Option Addr} {mr:Option Nat} {x:Ru} {lv rv:Value} {w:World}
section
open Go.RowKit
attribute [local go_sem ↓] Go.wp_at_zero Go.wp_at_succ
def Xy (L:List Sym) (n:Nat) (P:List (List Int)) (R:List Rw) (c k:Nat):Except Int (List (Int × Tr n)):=
 Zcz (λ s=>decide (0<(Yj R c (s:Int)).length)) (λ s=>Y5 L n (Y4 L P c s) ((Yj R c (s:Int)).map (Je L c))) k
theorem Zeq {R:List Rw}:∀ {k:Nat} {l:List (Int × Tr n)},Xy L n P R c k=.ok l->l.length<=k
 | 0,l,h=>by cases h;simp
 | k+1,l,h=>by
  unfold Xy Zcz at h;cases hk:Xy L n P R c k with
  | error e=>unfold Xy at hk;rw [hk] at h;cases h
  | ok m=>
   have hm:=Zeq hk;unfold Xy at hk;rw [hk] at h;simp only at h;split at h
   ·split at h
    ·cases h
    ·cases h;simp;omega
   ·cases h;omega
def BrF (L:List Sym) (n:Nat) (P:List (List Int)) (R:List Rw) (c:Nat):Except Int (Tr (n+1)):=
 match Xy L n P R c L.length with
 | .error e=>.error e
 | .ok l=>.ok (2,0,P.getD c [],l)
theorem Zej {R : List Rw} {z : Int} : ∀ {k m : Nat}, Xy L n P R c k = .error z -> k <= m -> Xy L n P R c m = .error z
  | k, 0, h, hm => by obtain rfl : k = 0 := by omega
                      exact h
  | k, m + 1, h, hm => by
    by_cases e : k = m + 1
    · subst e; exact h
    · have := Zej h (show k <= m by omega)
      unfold Xy at this ⊢;unfold Zcz;rw [this]
abbrev Zy:Obj:=.cells #[.int .i64 0,.int .i64 0,.slice none 0 0,.slice none 0 0] 63
theorem Zo7 (IH:Znj L n) {po:Option Addr} {pc:Nat} {rc:Nat} {R:List Rw} (h:Zho w L (n+1) bs po pc P ro R) (hc:c<P.length) :
  Calls prog 133 #[.agg #[.pointer (some ⟨bs,0,none⟩),.slice po P.length pc,.slice ro R.length rc],.int .i64 (c:Int)] w (Zba w (BrF L n P R c)):=by
 have hle:=h.ok.le;have hfew:=h.ok.few;have hpl:=h.ok.len _ (List.getElem_mem hc);have hL64:L.length<=64:=by obtain ⟨⟨sv,mr,hs,_⟩,_⟩:=h.sig;exact hs.len
 obtain ⟨W1,hW1⟩:∃ W1,W1=(w.alloc (.cells #[.pointer (some ⟨bs,0,none⟩),.slice po P.length pc,.slice ro R.length rc] 181)).alloc Zy:=⟨_,rfl⟩;have KW:Za w W1:=by rw [hW1];exact ((Zc.refl _ w).alloc _).alloc _
 have HH:Hid (∀ ww,Za W1 ww->Zho ww L (n+1) bs po pc P ro R):=λ ww hk=>h.same (KW.trans' hk)
 have BX:Hid (∀ ww,Za W1 ww->ww.cell? ⟨w.heap.size,0,none⟩=some (.pointer (some ⟨bs,0,none⟩))∧ww.cell? ⟨w.heap.size,1,none⟩=some (.slice po P.length pc)∧ww.cell? ⟨w.heap.size,2,none⟩=some (.slice ro R.length rc)):=λ ww hk=>by
  have hb:W1.heap[w.heap.size]? = some (.cells #[.pointer (some ⟨bs,0,none⟩),.slice po P.length pc,.slice ro R.length rc] 181 (0,0)):=by rw [hW1];exact heap_alloc2_old _ _ _
  exact ⟨Zb (hk.at0 hb) 0,Zb (hk.at0 hb) 1,Zb (hk.at0 hb) 2⟩
 have RS:Hid (∀ ww,Za W1 ww->ww.heap[w.heap.size+1]? = some (.cells #[.int .i64 0,.int .i64 0,.slice none 0 0,.slice none 0 0] 63 (0,0))):=λ ww hk=>hk.at0 (by rw [hW1];exact Zo _ _ _);obtain ⟨pb,poff,ao,ac,rfl,hpb,hcell,hArg⟩:=h.ps.get hc;have PC:=(KW.cell (p:=⟨pb,poff+c,none⟩) hpb (λ f=>f)).trans hcell;have CL:=Zf4 (hArg.1.same KW);have ez:w.heap.size+1<W1.heap.size:=by rw [hW1];simp
 have i1:(0:Int)<=(c:Int):=by omega
 have i2:(c:Int)<(P.length:Int):=by omega
 have CN:Hid (∀ ww,Za W1 ww->Calls prog 17 #[.pointer (some ⟨bs,0,none⟩)] ww λ e w' => e=.returned (.int .i64 (L.length:Int))∧w' = ww):=λ ww hk=>Zw6 (HH.out ww hk).sig;have HLP:Hid (P.getD c []=P[c]):=Xi hc [];clear h hArg hcell;obtain ⟨b0,b1,b2⟩:=BX.out W1 (Zc.refl _ _)
 go_enter func133,ntmps133
 go_upto_region 1 with fail
 rw [<- hW1];clear hW1
 go_upto_region 2 with ((go_at_call 177;refine CL.mono ?_;rintro e w2 ⟨v2,rfl,hrow,hk2⟩;obtain ⟨qo,qc,rfl,a2,q2⟩:=hrow.arg (by omega)))
 have K2:Za W1 w2:=hk2;obtain ⟨kb,hkb⟩:∃ kb,kb=w2.heap.size:=⟨_,rfl⟩;have HQ:Hid (∀ ww,Za w2 ww->Arg ww qo P[c] qc):=λ ww hk=>a2.1.same hk;have HQB:Hid (∀ a,qo=some a->W1.heap.size<=a.block):=q2;have hN0:Hid ((w2.alloc (.cells #[.int .i64 2,.int .i64 0,.slice qo P[c].length qc,.slice none 0 0] 63)).heap[kb]? = some (.cells #[.int .i64 2,.int .i64 0,.slice qo P[c].length qc,.slice none 0 0] 63 (0,0))):=by rw [hkb];exact heap_alloc_new w2 _
 have K3:Za w2 (w2.alloc (.cells #[.int .i64 2,.int .i64 0,.slice qo P[c].length qc,.slice none 0 0] 63)):=Zal9;have hkW:W1.heap.size<=kb:=by rw [hkb];exact K2.size
 have HKB:Hid (kb=w2.heap.size):=hkb;rw [<- hkb];have hz3:(w2.alloc (.cells #[.int .i64 2,.int .i64 0,.slice qo P[c].length qc,.slice none 0 0] 63)).heap.size=kb+1:=by rw [hkb];simp
 have HZ3:Hid ((w2.alloc (.cells #[.int .i64 2,.int .i64 0,.slice qo P[c].length qc,.slice none 0 0] 63)).heap.size=kb+1):=hz3;obtain ⟨b3,_,_⟩:=BX.out _ (K2.trans' K3);have CN3:=CN.out _ (K2.trans' K3);clear hrow a2 q2 CL PC b0 b1 b2 hkb hk2 hz3
 go_wp2_with ((go_at_call 17;refine CN3.mono ?_;rintro e w4 ⟨rfl,rfl⟩))
 clear CN3 b3
 go_loopw [18] (λ i wr=>∃ (k:Nat) (lv:Value) (us:List Value) (l:List (Int × Tr n)),k<=L.length∧i=.int .i64 (k:Int)∧Hid (Xy L n P R c k=.ok l)∧Hid (wr.heap[kb]? = some (.cells #[.int .i64 2,.int .i64 0,.slice qo P[c].length qc,lv] 63 (0,0)))∧Hid (wr.ownsRow (kb+1) 161 5 lv l.length us)∧Hid (Y2 (λ b=>kb<b∧lv.ownBlock≠some b) wr n us l)∧Za w2 wr) (λ i _=>L.length-(intOf i).toNat)
 case atStart=>exact ⟨0,.slice none 0 0,[],[],Nat.zero_le _,rfl,rfl,hN0,World.ownsRow_nil _ _ _ _,Y2.nil _ _ _,K3⟩
 case round=>
  clear hN0 K3 CN;obtain ⟨k,lv,us,l,hk,rfl,hK,hN,hr,hus,hw⟩:=hrel;obtain ⟨lo,lc,rfl⟩:=Zf hr.out;have hw1:Za W1 wr:=K2.trans' hw;obtain ⟨b0,b1,b2⟩:=BX.out wr hw1;have hll:=Zeq hK.out
  by_cases hlt:k<L.length
  ·have NI:=HH.out wr hw1
   have CH:=Zps (nv:=.nilIface) (pv:=.nilIface) (rc:=rc) (bs:=bs) (po:=some ⟨pb,poff,none⟩) (pl:=P.length) (pc:=pc) NI.rs NI.ok.rows NI.ok.le c hc (k:Int);have BY:Hid (∀ ww,Za wr ww->(ww.cell? ⟨w.heap.size,0,none⟩=some (.pointer (some ⟨bs,0,none⟩))∧ww.cell? ⟨w.heap.size,1,none⟩=some (.slice (some ⟨pb,poff,none⟩) P.length pc)∧ww.cell? ⟨w.heap.size,2,none⟩=some (.slice ro R.length rc))∧ww.cell? ⟨kb,3,none⟩=some (.slice lo l.length lc)):=λ ww hk=>⟨BX.out ww (hw1.trans' hk),Zb (hk.at0 hN.out) 3⟩
   by_cases hhas:0<(Yj R c (k:Int)).length
   ·have hgt:(0:Int)<((Yj R c (k:Int)).length:Int):=by omega
    have KO:Hid (∀ w3 ho hcc,Za wr w3->Ze8 w3 ho (Yj R c (k:Int))->∀ ww,Za w3 ww->Calls prog 131 #[.agg #[.pointer (some ⟨bs,0,none⟩),.slice (some ⟨pb,poff,none⟩) P.length pc,.slice ro R.length rc],.int .i64 (c:Int),.int .i64 (k:Int),.slice ho (Yj R c (k:Int)).length hcc] ww λ e w' => ∃ vo vc xo xc,e=.returned (.agg #[.pointer (some ⟨bs,0,none⟩),.slice vo (Y4 L P c k).length vc,.slice xo (Yj R c (k:Int)).length xc])∧Hid (Zho w' L n bs vo vc (Y4 L P c k) xo ((Yj R c (k:Int)).map (Je L c)))∧Za ww w'):=by
     intro w3 ho hcc k3 hh ww k4;have NI3:=(NI.same k3).same k4;refine (Zr0 (NI3.toKid hc hlt (hh.same k4))).mono ?_;rintro e w' ⟨vo,vc,xo,xc,rfl,z1,z2,z3,z4,z5,z6⟩;exact ⟨vo,vc,xo,xc,rfl,⟨Zbs (NI3.sig.same z6) z6.size,z1,z2,z3,z4,NI.ok.kid hc hlt (Vm NI.sig.2 _) (λ e=>by rw [e] at hhas;simp at hhas)⟩,z6⟩
    have GO:Hid (∀ ww vo vc xo xc,Zho ww L n bs vo vc (Y4 L P c k) xo ((Yj R c (k:Int)).map (Je L c))->Calls prog 92 #[.agg #[.pointer (some ⟨bs,0,none⟩),.slice vo (Y4 L P c k).length vc,.slice xo (Yj R c (k:Int)).length xc]] ww (Zba ww (Y5 L n (Y4 L P c k) ((Yj R c (k:Int)).map (Je L c))))):=λ ww vo vc xo xc hi=>by
     have:=IH ww bs vo vc _ xo xc _ hi;rw [List.length_map] at this;exact this
    have HS:Xy L n P R c (k+1)=(match Y5 L n (Y4 L P c k) ((Yj R c (k:Int)).map (Je L c)) with | .error e=>.error e | .ok t=>.ok (l ++ [((k:Int),t)])):=by
     have:=hK.out;unfold Xy at this ⊢;rw [Zcz,this];simp only [hhas,decide_true,if_true];cases Y5 L n (Y4 L P c k) ((Yj R c (k:Int)).map (Je L c)) <;> rfl
    cases hg:Y5 L n (Y4 L P c k) ((Yj R c (k:Int)).map (Je L c)) with
    | error z=>
     rw [hg] at HS
     have HE:Hid (∀ ww w' e,Za wr ww->Za ww w' -> FkAt w' e z->Zba w (BrF L n P R c) e w'):=λ ww w' e k1 k2 hf=>by
      have:BrF L n P R c=.error z:=by unfold BrF;rw [Zej HS (show k+1<=L.length by omega)]
      rw [this];exact ⟨hf,((KW.trans' hw1).trans' k1).trans' k2⟩
     have GE:Hid (∀ ww vo vc xo xc,Zho ww L n bs vo vc (Y4 L P c k) xo ((Yj R c (k:Int)).map (Je L c))->Calls prog 92 #[.agg #[.pointer (some ⟨bs,0,none⟩),.slice vo (Y4 L P c k).length vc,.slice xo (Yj R c (k:Int)).length xc]] ww λ e w' => Hid (FkAt w' e z)∧Za ww w'):=λ ww vo vc xo xc hi=>by
      have:=GO.out ww vo vc xo xc hi;rw [hg] at this;exact this
     clear HS hg GO hK hr hus hN NI hll hhas
     go_upto_region 7 with ((go_at_call 188;refine CH.mono ?_;rintro e w3 ⟨ho,hcc,rfl,hh,hhn,k3⟩))
     have WD:Za w3 w3.drew:=(Zc.refl _ _).drew;refine wp_region_held_drew (S:=λ w' => (w'.cell? ⟨w.heap.size,0,none⟩=some (.pointer (some ⟨bs,0,none⟩))∧w'.cell? ⟨w.heap.size,1,none⟩=some (.slice (some ⟨pb,poff,none⟩) P.length pc)∧w'.cell? ⟨w.heap.size,2,none⟩=some (.slice ro R.length rc))∧w'.cell? ⟨kb,3,none⟩=some (.slice lo l.length lc)) (by kernel_rfl) (BY.out _ (k3.trans' WD)) (λ hHeld=>?_);refine wpAnyH_take (i:=0) (v:=.pointer (some ⟨kb,3,none⟩)) rfl (by kernel_rfl) (by kernel_rfl) (by kernel_rfl) (λ _ _ _ h=>h) (.inl ⟨rfl,λ w' hS=>by simp [go_sem]⟩) hHeld ?_;refine wpAnyH_take (i:=1) (v:=.slice lo l.length lc) rfl (by kernel_rfl) (by kernel_rfl) (by kernel_rfl) (λ _ _ _ h=>h) (.inl ⟨rfl,λ w' hS=>by simp [go_sem,hS.2]⟩) hHeld ?_;refine wpAnyH_take (i:=2) (v:=.int .i64 (k:Int)) rfl (by kernel_rfl) (by kernel_rfl) (by kernel_rfl) (λ _ _ _ h=>h) (.inl ⟨rfl,λ w' hS=>by simp [go_sem]⟩) hHeld ?_;refine wpAnyH_take (i:=3) (v:=.agg #[.pointer (some ⟨bs,0,none⟩),.slice (some ⟨pb,poff,none⟩) P.length pc,.slice ro R.length rc]) rfl (by kernel_rfl) (by kernel_rfl) (by kernel_rfl) (λ _ _ _ h=>h) (.inl ⟨rfl,λ w' hS=>by simp [go_sem,hS.1.1,hS.1.2.1,hS.1.2.2]⟩) hHeld ?_;refine wpAnyH_take (i:=4) (v:=.int .i64 (c:Int)) rfl (by kernel_rfl) (by kernel_rfl) (by kernel_rfl) (λ _ _ _ h=>h) (.inl ⟨rfl,λ w' hS=>by simp [go_sem]⟩) hHeld ?_;refine wpAnyH_take (i:=5) (v:=.int .i64 (k:Int)) rfl (by kernel_rfl) (by kernel_rfl) (by kernel_rfl) (λ _ _ _ h=>h) (.inl ⟨rfl,λ w' hS=>by simp [go_sem]⟩) hHeld ?_;refine wpAnyH_take (i:=6) (v:=.slice ho (Yj R c (k:Int)).length hcc) rfl (by kernel_rfl) (by kernel_rfl) (by kernel_rfl) (λ _ _ _ h=>h) (.inl ⟨rfl,λ w' hS=>by simp [go_sem]⟩) hHeld ?_;refine wpAnyH_ready (rs:=[7]) (by kernel_rfl) (by simp) ?_;refine AllReadyH.cons rfl (λ K hK=>?_) AllReadyH.nil;refine Yn rfl (KO.out w3 ho hcc k3 hh _ WD) (by simp [go_sem]) ?_;rintro e w4 ⟨vo,vc,xo,xc,rfl,ni,k4⟩;refine ⟨_,rfl,?_⟩
     have k14:=k3.trans' (WD.trans' k4);refine hK.out _ _ (BY.out _ k14) (λ hHeld=>?_);clear hK K;refine wpAnyH_ready (rs:=[8]) (by kernel_rfl) (by simp) ?_;refine AllReadyH.cons rfl (λ K hK=>?_) AllReadyH.nil;refine Zpa rfl (GE.out w4 vo vc xo xc ni.out) (by simp [go_sem]) ?_;rintro e w5 ⟨hf,k5⟩;have HF:=HE.out w4 w5 e k14 k5 hf.out;obtain ⟨b,rfl,hb⟩:=hf.out;exact ⟨_,rfl,rfl,HF⟩
    | ok t=>
     rw [hg] at HS;have HS' : Hid (Xy L n P R c (k+1)=.ok (l ++ [((k:Int),t)])):=HS
     have GE:Hid (∀ ww vo vc xo xc,Zho ww L n bs vo vc (Y4 L P c k) xo ((Yj R c (k:Int)).map (Je L c))->Calls prog 92 #[.agg #[.pointer (some ⟨bs,0,none⟩),.slice vo (Y4 L P c k).length vc,.slice xo (Yj R c (k:Int)).length xc]] ww λ e w' => ∃ tk tr tpo tpl tpc tko tkl tkc,e=.returned (.agg #[.int .i64 tk,.int .i64 tr,.slice tpo tpl tpc,.slice tko tkl tkc])∧Hid (CsB (λ b=>ww.heap.size<=b) w' n (.agg #[.int .i64 tk,.int .i64 tr,.slice tpo tpl tpc,.slice tko tkl tkc]) t)∧Za ww w'):=λ ww vo vc xo xc hi=>by
      have:=GO.out ww vo vc xo xc hi;rw [hg] at this;refine this.mono ?_;rintro e w' ⟨v,rfl,h1,h2⟩;obtain ⟨tk,tr,tpo,tpl,tpc,tko,tkl,tkc,rfl⟩:=h1.shape;exact ⟨tk,tr,tpo,tpl,tpc,tko,tkl,tkc,rfl,h1,h2⟩
     have hz2:w2.heap.size=kb:=HKB.out.symm;have hkr:kb<wr.heap.size:=Zi hN.out
     have FIN:Hid (∀ w4 w5 c0 c1 c2 c3 g cap w11,Za wr w4->Za w4 w5->CsB (λ b=>w4.heap.size<=b) w5 n (.agg #[c0,c1,c2,c3]) t->w11.ownsRow (kb+1) 161 5 (.slice (some ⟨g,0,none⟩) (l.length+1) cap) (l.length+1) (us ++ [.int .i64 (k:Int),c0,c1,c2,c3])->Zc (λ q=>(Value.slice lo l.length lc).ownBlock=some q) w5 w11->((Value.slice lo l.length lc).ownBlock=some g∨w5.heap.size<=g)->(w11.cell? ⟨kb,3,none⟩=some (.slice lo l.length lc)∧w11.frozen? ⟨kb,3,none⟩=false)∧Hid (∃ us' l', Hid (Xy L n P R c (k+1)=.ok l')∧Hid ((w11.setCell ⟨kb,3,none⟩ (.slice (some ⟨g,0,none⟩) (l.length+1) cap)).heap[kb]? = some (.cells #[.int .i64 2,.int .i64 0,.slice qo P[c].length qc,.slice (some ⟨g,0,none⟩) (l.length+1) cap] 63 (0,0)))∧Hid ((w11.setCell ⟨kb,3,none⟩ (.slice (some ⟨g,0,none⟩) (l.length+1) cap)).ownsRow (kb+1) 161 5 (.slice (some ⟨g,0,none⟩) (l.length+1) cap) l'.length us')∧Hid (Y2 (λ b=>kb<b∧(Value.slice (some ⟨g,0,none⟩) (l.length+1) cap).ownBlock≠some b) (w11.setCell ⟨kb,3,none⟩ (.slice (some ⟨g,0,none⟩) (l.length+1) cap)) n us' l')∧Za w2 (w11.setCell ⟨kb,3,none⟩ (.slice (some ⟨g,0,none⟩) (l.length+1) cap)))):=by
      intro w4 w5 c0 c1 c2 c3 g cap w11 k4 k5 hcs r11 k11 hat;have kr5:Za wr w5:=k4.trans' k5;have hr5:=kr5.row hr.out (λ _ _ f=>f);have n5:=kr5.at0 hN.out
      have nk:¬ (Value.slice lo l.length lc).ownBlock=some kb:=λ e=>by
       obtain ⟨cu,h5⟩:=Yb hr5 e;rw [n5] at h5;cases h5
      have n11:=k11.at n5 nk;have ks:Zc (λ q=>q=kb) w11 (w11.setCell ⟨kb,3,none⟩ (.slice (some ⟨g,0,none⟩) (l.length+1) cap)):=Zc.setCell (p:=⟨kb,3,none⟩) (Zc.refl (λ q=>q=kb) w11) (λ _=>rfl) _;have z4:=k4.size;have z5:=k5.size
      have hK1:Y2 (λ b=>kb<b∧(Value.slice lo l.length lc).ownBlock≠some b∧b<w5.heap.size) w5 n us l:=by
       have:=hus.out.mono (B' := λ b=>kb<b∧(Value.slice lo l.length lc).ownBlock≠some b∧b<w5.heap.size) (λ b hb q=>⟨q.1,q.2,by omega⟩);exact this.kept kr5 (λ _ _ f=>f)
      have hC1:CsB (λ b=>kb<b∧(Value.slice lo l.length lc).ownBlock≠some b∧b<w5.heap.size) w5 n (.agg #[c0,c1,c2,c3]) t:=CsB.mono (λ b hb q=>⟨by omega,λ e=>by have:=(hr.out.lt b e).2;omega,hb⟩) hcs;refine ⟨⟨Zb n11 3,Zg n11 3⟩,us ++ [.int .i64 (k:Int),c0,c1,c2,c3],l ++ [((k:Int),t)],HS', Zt n11 3 _,?_,?_,?_⟩
      ·show World.ownsRow _ _ _ _ _ _ _
       rw [List.length_append]
       exact ks.row r11 (λ q e f=>by
        obtain ⟨cu,h5⟩:=Yb r11 e;subst f
        rw [n11] at h5;cases h5)
      ·have a1:=(hK1.snoc (s:=(k:Int)) hC1).kept k11 (λ b q e=>q.2.1 e)
       have a2:=a1.kept ks (λ b q e=>by have:=q.1;omega)
       exact a2.mono (λ b hb q=>⟨q.1,λ e=>by
        simp only [Value.ownBlock,Option.some.injEq] at e;subst e
        rcases hat with e | e
        ·exact q.2.1 e
        ·have:=q.2.2;omega⟩)
      ·refine Zc.trans (Zc.trans (hw.trans' kr5) k11 (λ i hi e=>?_)) ks (λ i hi e=>by omega)
       have:=(hr5.lt i e).1;omega
     have FS:Hid (∀ w5 w11 v,Za wr w5->Zc (λ q=>(Value.slice lo l.length lc).ownBlock=some q) w5 w11->(w11.cell? ⟨w.heap.size,0,none⟩=some (.pointer (some ⟨bs,0,none⟩))∧w11.cell? ⟨w.heap.size,1,none⟩=some (.slice (some ⟨pb,poff,none⟩) P.length pc)∧w11.cell? ⟨w.heap.size,2,none⟩=some (.slice ro R.length rc))∧(w11.setCell ⟨kb,3,none⟩ v).cell? ⟨w.heap.size,0,none⟩=some (.pointer (some ⟨bs,0,none⟩))∧(w11.setCell ⟨kb,3,none⟩ v).cell? ⟨w.heap.size,1,none⟩=some (.slice (some ⟨pb,poff,none⟩) P.length pc)∧(w11.setCell ⟨kb,3,none⟩ v).cell? ⟨w.heap.size,2,none⟩=some (.slice ro R.length rc)):=by
      intro w5 w11 v k5 k11;have hr5:=k5.row hr.out (λ _ _ f=>f);have kS:Za W1 w11:=Zc.trans (hw1.trans' k5) k11 (λ i hi e=>by have:=(hr5.lt i e).1;omega);have kT:Za W1 (w11.setCell ⟨kb,3,none⟩ v):=Zc.setCell (p:=⟨kb,3,none⟩) kS (λ hi=>by simp at hi;omega) v;exact ⟨BX.out _ kS,BX.out _ kT⟩
     have HRW:Hid (∀ ww,Za wr ww->ww.ownsRow (kb+1) 161 5 (.slice lo l.length lc) l.length us):=λ ww hk=>hk.row hr.out (λ _ _ f=>f);have hzz:Hid (∀ ww,Za wr ww->kb+1<=ww.heap.size):=λ ww hk=>by have:=hk.size;omega
     have hl1000:l.length<=1000:=by omega
     clear HS hg GO hK hr hus hN NI hll hhas hz2 hkr
     go_upto_region 7 with ((go_at_call 188;refine CH.mono ?_;rintro e w3 ⟨ho,hcc,rfl,hh,hhn,k3⟩))
     have WD:Za w3 w3.drew:=(Zc.refl _ _).drew;have y0:w3.drew.cell? ⟨kb,3,none⟩=some (.slice lo l.length lc):=(BY.out _ (k3.trans' WD)).2;refine wp_region_held_drew (S:=λ w' => w'.cell? ⟨w.heap.size,0,none⟩=some (.pointer (some ⟨bs,0,none⟩))∧w'.cell? ⟨w.heap.size,1,none⟩=some (.slice (some ⟨pb,poff,none⟩) P.length pc)∧w'.cell? ⟨w.heap.size,2,none⟩=some (.slice ro R.length rc)) (by kernel_rfl) (BY.out _ (k3.trans' WD)).1 (λ hHeld=>?_);refine wpAnyH_take (i:=0) (v:=.pointer (some ⟨kb,3,none⟩)) rfl (by kernel_rfl) (by kernel_rfl) (by kernel_rfl) (λ _ _ _ h=>h) (.inl ⟨rfl,λ w' hS=>by simp [go_sem]⟩) hHeld ?_;refine wpAnyH_take (i:=2) (v:=.int .i64 (k:Int)) rfl (by kernel_rfl) (by kernel_rfl) (by kernel_rfl) (λ _ _ _ h=>h) (.inl ⟨rfl,λ w' hS=>by simp [go_sem]⟩) hHeld ?_;refine wpAnyH_take (i:=3) (v:=.agg #[.pointer (some ⟨bs,0,none⟩),.slice (some ⟨pb,poff,none⟩) P.length pc,.slice ro R.length rc]) rfl (by kernel_rfl) (by kernel_rfl) (by kernel_rfl) (λ _ _ _ h=>h) (.inl ⟨rfl,λ w' hS=>by simp [go_sem,hS.1,hS.2.1,hS.2.2]⟩) hHeld ?_;refine wpAnyH_take (i:=4) (v:=.int .i64 (c:Int)) rfl (by kernel_rfl) (by kernel_rfl) (by kernel_rfl) (λ _ _ _ h=>h) (.inl ⟨rfl,λ w' hS=>by simp [go_sem]⟩) hHeld ?_;refine wpAnyH_take (i:=5) (v:=.int .i64 (k:Int)) rfl (by kernel_rfl) (by kernel_rfl) (by kernel_rfl) (λ _ _ _ h=>h) (.inl ⟨rfl,λ w' hS=>by simp [go_sem]⟩) hHeld ?_;refine wpAnyH_take (i:=6) (v:=.slice ho (Yj R c (k:Int)).length hcc) rfl (by kernel_rfl) (by kernel_rfl) (by kernel_rfl) (λ _ _ _ h=>h) (.inl ⟨rfl,λ w' hS=>by simp [go_sem]⟩) hHeld ?_;refine wpAnyH_ready (rs:=[1,7]) (by kernel_rfl) (by simp) ?_;refine AllReadyH.cons rfl (λ K hK=>?_) (AllReadyH.cons rfl (λ K hK=>?_) AllReadyH.nil)
     ·go_simp
      refine hK.out _ _ hHeld (λ hHeld=>?_);clear hK K;refine wpAnyH_ready (rs:=[7]) (by kernel_rfl) (by simp) ?_;refine AllReadyH.cons rfl (λ K hK=>?_) AllReadyH.nil;refine Yn rfl (KO.out w3 ho hcc k3 hh _ WD) (by simp [go_sem]) ?_;rintro e w4 ⟨vo,vc,xo,xc,rfl,ni,k4⟩;refine ⟨_,rfl,?_⟩;have k14:=k3.trans' (WD.trans' k4);have y4:=(BY.out _ k14).2;refine hK.out _ _ (BY.out _ k14).1 (λ hHeld=>?_);clear hK K;refine wpAnyH_ready (rs:=[8]) (by kernel_rfl) (by simp) ?_;refine AllReadyH.cons rfl (λ K hK=>?_) AllReadyH.nil;refine Yn rfl (GE.out w4 vo vc xo xc ni.out) (by simp [go_sem]) ?_;rintro e w5 ⟨tk,tr,tpo,tpl,tpc,tko,tkl,tkc,rfl,hcs,k5⟩;refine ⟨_,rfl,?_⟩;have k15:=k14.trans' k5;have y5:=(BY.out _ k15).2;have y6:=(BY.out _ (k15.alloc (.cells #[.int .i64 (k:Int),.int .i64 tk,.int .i64 tr,.slice tpo tpl tpc,.slice tko tkl tkc] 161))).2;refine hK.out _ _ (BY.out _ k15).1 (λ hHeld=>?_);clear hK K;refine wpAnyH_take (i:=9) (v:=.agg #[.int .i64 (k:Int),.int .i64 tk,.int .i64 tr,.slice tpo tpl tpc,.slice tko tkl tkc]) rfl (by kernel_rfl) (by kernel_rfl) (by kernel_rfl) (λ _ _ _ h=>h) (.inl ⟨rfl,λ w' hS=>by simp [go_sem]⟩) hHeld ?_;refine wpAnyH_ready (rs:=[10]) (by kernel_rfl) (by simp) ?_;refine AllReadyH.cons rfl (λ K hK=>?_) AllReadyH.nil
      go_simp
      refine hK.out _ _ (BY.out _ (Zc.alloc k15 _)).1 (λ hHeld=>?_);clear hK K;refine wpAnyH_ready (rs:=[11]) (by kernel_rfl) (by simp) ?_;refine AllReadyH.cons rfl (λ K hK=>?_) AllReadyH.nil;refine Zdc (w0:=w5) (by rfl) _ _ (by rfl) (kb+1) l.length us (.slice lo l.length lc) (by rfl) ((Zc.refl _ w5).alloc _) (HRW.out _ k15) (.int .i64 (k:Int)) (.int .i64 tk) (.int .i64 tr) (.slice tpo tpl tpc) (.slice tko tkl tkc) w5.heap.size (by rfl) (heap_alloc_new w5 _) (by rfl) (by rfl) (by rfl) (by rfl) (by rfl) (hzz.out _ k15) hl1000 ?_;intro g cap w11 r11 k11 hat;obtain ⟨⟨y1,y2⟩,FF⟩:=FIN.out w4 w5 _ _ _ _ g cap w11 k14 k5 hcs.out r11 k11 hat;obtain ⟨e11,f11⟩:=FS.out w5 w11 (.slice (some ⟨g,0,none⟩) (l.length+1) cap) k15 k11;refine hK.out _ _ e11 (λ hHeld=>?_);clear hK K;refine wpAnyH_take (i:=12) (v:=.pointer (some ⟨kb,3,none⟩)) rfl (by kernel_rfl) (by kernel_rfl) (by kernel_rfl) (λ _ _ _ h=>h) (.inl ⟨rfl,λ w' hS=>by simp [go_sem]⟩) hHeld ?_;refine wpAnyH_ready (rs:=[13]) (by kernel_rfl) (by simp) ?_;refine AllReadyH.cons rfl (λ K hK=>?_) AllReadyH.nil
      go_simp
      refine hK.out _ _ f11 (λ hHeld=>?_);clear hK K;refine wpAnyH_done (by kernel_rfl) ?_ _
      go_wp2_with fail
      obtain ⟨us', l', z1,z2,z3,z4,z5⟩:=FF.out;exact ⟨⟨k+1,_,us', l', by omega,by go_num,z1,z2,z3,z4,z5⟩,by simp [intOf];omega⟩
     ·refine Yn rfl (KO.out w3 ho hcc k3 hh _ WD) (by simp [go_sem]) ?_
      rintro e w4 ⟨vo,vc,xo,xc,rfl,ni,k4⟩;refine ⟨_,rfl,?_⟩;have k14:=k3.trans' (WD.trans' k4);have y4:=(BY.out _ k14).2;refine hK.out _ _ (BY.out _ k14).1 (λ hHeld=>?_);clear hK K;refine wpAnyH_ready (rs:=[1,8]) (by kernel_rfl) (by simp) ?_;refine AllReadyH.cons rfl (λ K hK=>?_) (AllReadyH.cons rfl (λ K hK=>?_) AllReadyH.nil)
      ·go_simp
       refine hK.out _ _ hHeld (λ hHeld=>?_);clear hK K;refine wpAnyH_ready (rs:=[8]) (by kernel_rfl) (by simp) ?_;refine AllReadyH.cons rfl (λ K hK=>?_) AllReadyH.nil;refine Yn rfl (GE.out w4 vo vc xo xc ni.out) (by simp [go_sem]) ?_;rintro e w5 ⟨tk,tr,tpo,tpl,tpc,tko,tkl,tkc,rfl,hcs,k5⟩;refine ⟨_,rfl,?_⟩;have k15:=k14.trans' k5;have y5:=(BY.out _ k15).2;have y6:=(BY.out _ (k15.alloc (.cells #[.int .i64 (k:Int),.int .i64 tk,.int .i64 tr,.slice tpo tpl tpc,.slice tko tkl tkc] 161))).2;refine hK.out _ _ (BY.out _ k15).1 (λ hHeld=>?_);clear hK K;refine wpAnyH_take (i:=9) (v:=.agg #[.int .i64 (k:Int),.int .i64 tk,.int .i64 tr,.slice tpo tpl tpc,.slice tko tkl tkc]) rfl (by kernel_rfl) (by kernel_rfl) (by kernel_rfl) (λ _ _ _ h=>h) (.inl ⟨rfl,λ w' hS=>by simp [go_sem]⟩) hHeld ?_;refine wpAnyH_ready (rs:=[10]) (by kernel_rfl) (by simp) ?_;refine AllReadyH.cons rfl (λ K hK=>?_) AllReadyH.nil
       go_simp
       refine hK.out _ _ (BY.out _ (Zc.alloc k15 _)).1 (λ hHeld=>?_);clear hK K;refine wpAnyH_ready (rs:=[11]) (by kernel_rfl) (by simp) ?_;refine AllReadyH.cons rfl (λ K hK=>?_) AllReadyH.nil;refine Zdc (w0:=w5) (by rfl) _ _ (by rfl) (kb+1) l.length us (.slice lo l.length lc) (by rfl) ((Zc.refl _ w5).alloc _) (HRW.out _ k15) (.int .i64 (k:Int)) (.int .i64 tk) (.int .i64 tr) (.slice tpo tpl tpc) (.slice tko tkl tkc) w5.heap.size (by rfl) (heap_alloc_new w5 _) (by rfl) (by rfl) (by rfl) (by rfl) (by rfl) (hzz.out _ k15) hl1000 ?_;intro g cap w11 r11 k11 hat;obtain ⟨⟨y1,y2⟩,FF⟩:=FIN.out w4 w5 _ _ _ _ g cap w11 k14 k5 hcs.out r11 k11 hat;obtain ⟨e11,f11⟩:=FS.out w5 w11 (.slice (some ⟨g,0,none⟩) (l.length+1) cap) k15 k11;refine hK.out _ _ e11 (λ hHeld=>?_);clear hK K;refine wpAnyH_take (i:=12) (v:=.pointer (some ⟨kb,3,none⟩)) rfl (by kernel_rfl) (by kernel_rfl) (by kernel_rfl) (λ _ _ _ h=>h) (.inl ⟨rfl,λ w' hS=>by simp [go_sem]⟩) hHeld ?_;refine wpAnyH_ready (rs:=[13]) (by kernel_rfl) (by simp) ?_;refine AllReadyH.cons rfl (λ K hK=>?_) AllReadyH.nil
       go_simp
       refine hK.out _ _ f11 (λ hHeld=>?_);clear hK K;refine wpAnyH_done (by kernel_rfl) ?_ _
       go_wp2_with fail
       obtain ⟨us', l', z1,z2,z3,z4,z5⟩:=FF.out;exact ⟨⟨k+1,_,us', l', by omega,by go_num,z1,z2,z3,z4,z5⟩,by simp [intOf];omega⟩
      ·refine Yn rfl (GE.out w4 vo vc xo xc ni.out) (by simp [go_sem]) ?_
       rintro e w5 ⟨tk,tr,tpo,tpl,tpc,tko,tkl,tkc,rfl,hcs,k5⟩;refine ⟨_,rfl,?_⟩;have k15:=k14.trans' k5;have y5:=(BY.out _ k15).2;have y6:=(BY.out _ (k15.alloc (.cells #[.int .i64 (k:Int),.int .i64 tk,.int .i64 tr,.slice tpo tpl tpc,.slice tko tkl tkc] 161))).2;refine hK.out _ _ (BY.out _ k15).1 (λ hHeld=>?_);clear hK K;refine wpAnyH_take (i:=9) (v:=.agg #[.int .i64 (k:Int),.int .i64 tk,.int .i64 tr,.slice tpo tpl tpc,.slice tko tkl tkc]) rfl (by kernel_rfl) (by kernel_rfl) (by kernel_rfl) (λ _ _ _ h=>h) (.inl ⟨rfl,λ w' hS=>by simp [go_sem]⟩) hHeld ?_;refine wpAnyH_ready (rs:=[1,10]) (by kernel_rfl) (by simp) ?_;refine AllReadyH.cons rfl (λ K hK=>?_) (AllReadyH.cons rfl (λ K hK=>?_) AllReadyH.nil)
       ·go_simp
        refine hK.out _ _ hHeld (λ hHeld=>?_);clear hK K;refine wpAnyH_ready (rs:=[10]) (by kernel_rfl) (by simp) ?_;refine AllReadyH.cons rfl (λ K hK=>?_) AllReadyH.nil
        go_simp
        refine hK.out _ _ (BY.out _ (Zc.alloc k15 _)).1 (λ hHeld=>?_);clear hK K;refine wpAnyH_ready (rs:=[11]) (by kernel_rfl) (by simp) ?_;refine AllReadyH.cons rfl (λ K hK=>?_) AllReadyH.nil;refine Zdc (w0:=w5) (by rfl) _ _ (by rfl) (kb+1) l.length us (.slice lo l.length lc) (by rfl) ((Zc.refl _ w5).alloc _) (HRW.out _ k15) (.int .i64 (k:Int)) (.int .i64 tk) (.int .i64 tr) (.slice tpo tpl tpc) (.slice tko tkl tkc) w5.heap.size (by rfl) (heap_alloc_new w5 _) (by rfl) (by rfl) (by rfl) (by rfl) (by rfl) (hzz.out _ k15) hl1000 ?_;intro g cap w11 r11 k11 hat;obtain ⟨⟨y1,y2⟩,FF⟩:=FIN.out w4 w5 _ _ _ _ g cap w11 k14 k5 hcs.out r11 k11 hat;obtain ⟨e11,f11⟩:=FS.out w5 w11 (.slice (some ⟨g,0,none⟩) (l.length+1) cap) k15 k11;refine hK.out _ _ e11 (λ hHeld=>?_);clear hK K;refine wpAnyH_take (i:=12) (v:=.pointer (some ⟨kb,3,none⟩)) rfl (by kernel_rfl) (by kernel_rfl) (by kernel_rfl) (λ _ _ _ h=>h) (.inl ⟨rfl,λ w' hS=>by simp [go_sem]⟩) hHeld ?_;refine wpAnyH_ready (rs:=[13]) (by kernel_rfl) (by simp) ?_;refine AllReadyH.cons rfl (λ K hK=>?_) AllReadyH.nil
        go_simp
        refine hK.out _ _ f11 (λ hHeld=>?_);clear hK K;refine wpAnyH_done (by kernel_rfl) ?_ _
        go_wp2_with fail
        obtain ⟨us', l', z1,z2,z3,z4,z5⟩:=FF.out;exact ⟨⟨k+1,_,us', l', by omega,by go_num,z1,z2,z3,z4,z5⟩,by simp [intOf];omega⟩
       ·go_simp
        refine hK.out _ _ (BY.out _ (Zc.alloc k15 _)).1 (λ hHeld=>?_);clear hK K;refine wpAnyH_ready (rs:=[1]) (by kernel_rfl) (by simp) ?_;refine AllReadyH.cons rfl (λ K hK=>?_) AllReadyH.nil
        go_simp
        refine hK.out _ _ hHeld (λ hHeld=>?_);clear hK K;refine wpAnyH_ready (rs:=[11]) (by kernel_rfl) (by simp) ?_;refine AllReadyH.cons rfl (λ K hK=>?_) AllReadyH.nil;refine Zdc (w0:=w5) (by rfl) _ _ (by rfl) (kb+1) l.length us (.slice lo l.length lc) (by rfl) ((Zc.refl _ w5).alloc _) (HRW.out _ k15) (.int .i64 (k:Int)) (.int .i64 tk) (.int .i64 tr) (.slice tpo tpl tpc) (.slice tko tkl tkc) w5.heap.size (by rfl) (heap_alloc_new w5 _) (by rfl) (by rfl) (by rfl) (by rfl) (by rfl) (hzz.out _ k15) hl1000 ?_;intro g cap w11 r11 k11 hat;obtain ⟨⟨y1,y2⟩,FF⟩:=FIN.out w4 w5 _ _ _ _ g cap w11 k14 k5 hcs.out r11 k11 hat;obtain ⟨e11,f11⟩:=FS.out w5 w11 (.slice (some ⟨g,0,none⟩) (l.length+1) cap) k15 k11;refine hK.out _ _ e11 (λ hHeld=>?_);clear hK K;refine wpAnyH_take (i:=12) (v:=.pointer (some ⟨kb,3,none⟩)) rfl (by kernel_rfl) (by kernel_rfl) (by kernel_rfl) (λ _ _ _ h=>h) (.inl ⟨rfl,λ w' hS=>by simp [go_sem]⟩) hHeld ?_;refine wpAnyH_ready (rs:=[13]) (by kernel_rfl) (by simp) ?_;refine AllReadyH.cons rfl (λ K hK=>?_) AllReadyH.nil
        go_simp
        refine hK.out _ _ f11 (λ hHeld=>?_);clear hK K;refine wpAnyH_done (by kernel_rfl) ?_ _
        go_wp2_with fail
        obtain ⟨us', l', z1,z2,z3,z4,z5⟩:=FF.out;exact ⟨⟨k+1,_,us', l', by omega,by go_num,z1,z2,z3,z4,z5⟩,by simp [intOf];omega⟩
   ·have HS:Hid (Xy L n P R c (k+1)=.ok l):=by
     have:=hK.out;unfold Xy at this;show Xy L n P R c (k+1)=.ok l;unfold Xy;rw [Zcz,this];simp only [hhas,decide_false,Bool.false_eq_true,if_false]
    have hl0:(Yj R c (k:Int)).length=0:=by omega
    rw [hl0] at CH;have HK2:Hid (∀ w3,Za wr w3->Hid (w3.heap[kb]? = some (.cells #[.int .i64 2,.int .i64 0,.slice qo P[c].length qc,.slice lo l.length lc] 63 (0,0)))∧Hid (w3.ownsRow (kb+1) 161 5 (.slice lo l.length lc) l.length us)∧Hid (Y2 (λ b=>kb<b∧(Value.slice lo l.length lc).ownBlock≠some b) w3 n us l)):=λ w3 k3=>⟨k3.at0 hN.out,k3.row hr.out (λ _ _ f=>f),hus.out.kept k3 (λ _ _ f=>f)⟩;clear hK hN hr hus NI hhas hl0 hll
    go_wp2_with ((go_at_call 188;refine CH.mono ?_;rintro e w3 ⟨ho,hcc,rfl,hh,hhn,k3⟩))
    obtain ⟨z1,z2,z3⟩:=HK2.out w3 k3;exact ⟨⟨k+1,_,us,l,by omega,by go_num,HS,z1,z2,z3,hw.trans' k3⟩,by simp [intOf];omega⟩
  ·obtain rfl:k=L.length:=by omega
   have hN' := hN.out;have rs:=RS.out wr hw1;have n0:=Zb hN' 0;have n1:=Zb hN' 1;have n2:=Zb hN' 2;have n3:=Zb hN' 3;have q0:=Zb rs 0;have q1:=Zb rs 1;have q2:=Zb rs 2;have q3:=Zb rs 3;have f0:=Zg rs 0;have f1:=Zg rs 1;have f2:=Zg rs 2;have f3:=Zg rs 3;simp only [List.getElem?_toArray,List.getElem?_cons_zero,List.getElem?_cons_succ] at n0 n1 n2 n3 q0 q1 q2 q3;have s3:=Zt (Zt (Zt (Zt rs 0 (.int .i64 2)) 1 (.int .i64 0)) 2 (.slice qo P[c].length qc)) 3 (.slice lo l.length lc);have GG:Hid ((((((wr.setCell ⟨w.heap.size+1,0,none⟩ (.int .i64 2)).setCell ⟨w.heap.size+1,1,none⟩ (.int .i64 0)).setCell ⟨w.heap.size+1,2,none⟩ (.slice qo P[c].length qc)).setCell ⟨w.heap.size+1,3,none⟩ (.slice lo l.length lc))).cell? ⟨w.heap.size+1,0,none⟩=some (.int .i64 2)∧(((((wr.setCell ⟨w.heap.size+1,0,none⟩ (.int .i64 2)).setCell ⟨w.heap.size+1,1,none⟩ (.int .i64 0)).setCell ⟨w.heap.size+1,2,none⟩ (.slice qo P[c].length qc)).setCell ⟨w.heap.size+1,3,none⟩ (.slice lo l.length lc))).cell? ⟨w.heap.size+1,1,none⟩=some (.int .i64 0)∧(((((wr.setCell ⟨w.heap.size+1,0,none⟩ (.int .i64 2)).setCell ⟨w.heap.size+1,1,none⟩ (.int .i64 0)).setCell ⟨w.heap.size+1,2,none⟩ (.slice qo P[c].length qc)).setCell ⟨w.heap.size+1,3,none⟩ (.slice lo l.length lc))).cell? ⟨w.heap.size+1,2,none⟩=some (.slice qo P[c].length qc)∧(((((wr.setCell ⟨w.heap.size+1,0,none⟩ (.int .i64 2)).setCell ⟨w.heap.size+1,1,none⟩ (.int .i64 0)).setCell ⟨w.heap.size+1,2,none⟩ (.slice qo P[c].length qc)).setCell ⟨w.heap.size+1,3,none⟩ (.slice lo l.length lc))).cell? ⟨w.heap.size+1,3,none⟩=some (.slice lo l.length lc)):=⟨Zb s3 0,Zb s3 1,Zb s3 2,Zb s3 3⟩
   have FIN:Hid (Zba w (BrF L n P R c) (.returned (.agg #[.int .i64 2,.int .i64 0,.slice qo P[c].length qc,.slice lo l.length lc])) (((((wr.setCell ⟨w.heap.size+1,0,none⟩ (.int .i64 2)).setCell ⟨w.heap.size+1,1,none⟩ (.int .i64 0)).setCell ⟨w.heap.size+1,2,none⟩ (.slice qo P[c].length qc)).setCell ⟨w.heap.size+1,3,none⟩ (.slice lo l.length lc)))):=by
    have e1:BrF L n P R c=.ok (2,0,P.getD c [],l):=by unfold BrF;rw [hK.out]
    rw [e1]
    have kk:Zc (λ q=>q=w.heap.size+1) wr (((((wr.setCell ⟨w.heap.size+1,0,none⟩ (.int .i64 2)).setCell ⟨w.heap.size+1,1,none⟩ (.int .i64 0)).setCell ⟨w.heap.size+1,2,none⟩ (.slice qo P[c].length qc)).setCell ⟨w.heap.size+1,3,none⟩ (.slice lo l.length lc))):=by
     have k1:=Zc.setCell (p:=⟨w.heap.size+1,0,none⟩) (Zc.refl (λ q=>q=w.heap.size+1) wr) (λ _=>rfl) (.int .i64 2);have k2:=Zc.setCell (p:=⟨w.heap.size+1,1,none⟩) k1 (λ _=>rfl) (.int .i64 0);have k3:=Zc.setCell (p:=⟨w.heap.size+1,2,none⟩) k2 (λ _=>rfl) (.slice qo P[c].length qc);exact Zc.setCell (p:=⟨w.heap.size+1,3,none⟩) k3 (λ _=>rfl) (.slice lo l.length lc)
    have hcs:=Zj6 (B:=λ b=>W1.heap.size<=b) hr.out (hus.out.mono (λ b hb q=>by have:=q.1;omega)) (λ b e=>by have:=(hr.out.lt b e).1;omega) (HQ.out wr hw) HQB.out 2 0;rw [HLP.out];refine ⟨_,rfl,CsB.mono (λ b hb q=>by have:=q;omega) (CsB.kept kk (λ b q e=>by have:W1.heap.size<=b:=q;omega) hcs),Zc.trans (KW.trans' hw1) kk (λ i hi e=>by omega)⟩
   clear hN hr hus hN' rs s3 hK;go_wp2;obtain ⟨g0,g1,g2,g3⟩:=GG.out;exact bodyPost_ret (v:=.agg #[.int .i64 2,.int .i64 0,.slice qo P[c].length qc,.slice lo l.length lc]) (by simp [results,results133,go_sem,g0,g1,g2,g3]) rfl FIN.out
theorem Zb2 {R:List Rw} (h:R.length=0):Y5 L (n+1) P R=.ok (3,0,[],[]):=by
 rw [Y5,if_pos h]
theorem Zaa {R:List Rw} (h:¬ R.length=0) (hc:Y6 R P.length=some c):Y5 L (n+1) P R=BrF L n P R c:=by
 rw [Y5,if_neg h,hc];unfold BrF Xy;rfl
theorem Zce {R:List Rw} (h1:R.length=1) (hc:Y6 R P.length=none):Y5 L (n+1) P R=.ok (1,(R.headD (0,[],[])).1,[],[]):=by
 rw [Y5,if_neg (by omega),hc,if_pos h1]
theorem Zcb {R:List Rw} (h:¬ R.length=0) (h1:¬ R.length=1) (hc:Y6 R P.length=none):Y5 L (n+1) P R=.error (R.headD (0,[],[])).1:=by
 rw [Y5,if_neg h,hc,if_neg h1]
theorem Zhv (B:Nat->Prop) (w:World) (n:Nat) (k r:Int):CsB B w (n+1) (.agg #[.int .i64 k,.int .i64 r,.slice none 0 0,.slice none 0 0]) (k,r,[],[]):=
 ⟨none,0,none,0,rfl,⟨.inl rfl,Nat.le_refl _,λ _=>⟨rfl,rfl⟩,by simp⟩,.inl rfl,λ _=>rfl,Nat.le_refl _,.inl rfl⟩
theorem Ztn (IH:Znj L n):Znj L (n+1):=by
 intro w bs po pc P ro rc R h;have hle:=h.ok.le;have CPP:=λ ww (hk:Za w ww)=>Zky (bs:=bs) (po:=po) (pc:=pc) (rc:=rc) (h.rs.same hk) h.ok.rows hle h.ok.few;have CBB:=λ c (hc:c<P.length) ww (hk:Za w ww)=>Zo7 IH (rc:=rc) (h.same hk) hc;obtain ⟨N,hN⟩:∃ N,N=R.length:=⟨_,rfl⟩;have HN:Hid (N=R.length):=hN;rw [<- hN] at CPP CBB ⊢;obtain ⟨W1,hW1⟩:∃ W1,W1=(w.alloc (.cells #[.pointer (some ⟨bs,0,none⟩),.slice po P.length pc,.slice ro N rc] 181)).alloc Zy:=⟨_,rfl⟩;have KW:Za w W1:=by rw [hW1];exact ((Zc.refl _ w).alloc _).alloc _
 have ez:w.heap.size+1<W1.heap.size:=by rw [hW1];simp
 have HH:Hid (∀ ww,Za W1 ww->Zho ww L (n+1) bs po pc P ro R):=λ ww hk=>h.same (KW.trans' hk)
 have BX:Hid (∀ ww,Za W1 ww->ww.cell? ⟨w.heap.size,0,none⟩=some (.pointer (some ⟨bs,0,none⟩))∧ww.cell? ⟨w.heap.size,1,none⟩=some (.slice po P.length pc)∧ww.cell? ⟨w.heap.size,2,none⟩=some (.slice ro N rc)):=λ ww hk=>by
  have hb:W1.heap[w.heap.size]? = some (.cells #[.pointer (some ⟨bs,0,none⟩),.slice po P.length pc,.slice ro N rc] 181 (0,0)):=by rw [hW1];exact heap_alloc2_old _ _ _
  exact ⟨Zb (hk.at0 hb) 0,Zb (hk.at0 hb) 1,Zb (hk.at0 hb) 2⟩
 have RS:Hid (∀ ww,Za W1 ww->ww.heap[w.heap.size+1]? = some (.cells #[.int .i64 0,.int .i64 0,.slice none 0 0,.slice none 0 0] 63 (0,0))):=λ ww hk=>hk.at0 (by rw [hW1];exact Zo _ _ _)
 have RC:Hid (∀ ww,Za W1 ww->(ww.cell? ⟨w.heap.size+1,0,none⟩=some (.int .i64 0)∧ww.cell? ⟨w.heap.size+1,1,none⟩=some (.int .i64 0)∧ww.cell? ⟨w.heap.size+1,2,none⟩=some (.slice none 0 0)∧ww.cell? ⟨w.heap.size+1,3,none⟩=some (.slice none 0 0))∧ww.frozen? ⟨w.heap.size+1,0,none⟩=false∧ww.frozen? ⟨w.heap.size+1,1,none⟩=false∧ww.frozen? ⟨w.heap.size+1,2,none⟩=false∧ww.frozen? ⟨w.heap.size+1,3,none⟩=false):=λ ww hk=>by
  have rs:=RS.out ww hk;exact ⟨⟨Zb rs 0,Zb rs 1,Zb rs 2,Zb rs 3⟩,Zg rs 0,Zg rs 1,Zg rs 2,Zg rs 3⟩
 have PUT:Hid (∀ ww x0 x1 x2 x3,Za W1 ww->((((((ww.setCell ⟨w.heap.size+1,0,none⟩ x0).setCell ⟨w.heap.size+1,1,none⟩ x1).setCell ⟨w.heap.size+1,2,none⟩ x2).setCell ⟨w.heap.size+1,3,none⟩ x3).cell? ⟨w.heap.size+1,0,none⟩=some x0)∧((((ww.setCell ⟨w.heap.size+1,0,none⟩ x0).setCell ⟨w.heap.size+1,1,none⟩ x1).setCell ⟨w.heap.size+1,2,none⟩ x2).setCell ⟨w.heap.size+1,3,none⟩ x3).cell? ⟨w.heap.size+1,1,none⟩=some x1∧((((ww.setCell ⟨w.heap.size+1,0,none⟩ x0).setCell ⟨w.heap.size+1,1,none⟩ x1).setCell ⟨w.heap.size+1,2,none⟩ x2).setCell ⟨w.heap.size+1,3,none⟩ x3).cell? ⟨w.heap.size+1,2,none⟩=some x2∧((((ww.setCell ⟨w.heap.size+1,0,none⟩ x0).setCell ⟨w.heap.size+1,1,none⟩ x1).setCell ⟨w.heap.size+1,2,none⟩ x2).setCell ⟨w.heap.size+1,3,none⟩ x3).cell? ⟨w.heap.size+1,3,none⟩=some x3)∧Zc (λ q=>q=w.heap.size+1) ww ((((ww.setCell ⟨w.heap.size+1,0,none⟩ x0).setCell ⟨w.heap.size+1,1,none⟩ x1).setCell ⟨w.heap.size+1,2,none⟩ x2).setCell ⟨w.heap.size+1,3,none⟩ x3)∧Za w ((((ww.setCell ⟨w.heap.size+1,0,none⟩ x0).setCell ⟨w.heap.size+1,1,none⟩ x1).setCell ⟨w.heap.size+1,2,none⟩ x2).setCell ⟨w.heap.size+1,3,none⟩ x3)):=by
  intro ww x0 x1 x2 x3 hk;have rs:=RS.out ww hk;have s3:=Zt (Zt (Zt (Zt rs 0 x0) 1 x1) 2 x2) 3 x3;have k1:=Zc.setCell (p:=⟨w.heap.size+1,0,none⟩) (Zc.refl (λ q=>q=w.heap.size+1) ww) (λ _=>rfl) x0;have k2:=Zc.setCell (p:=⟨w.heap.size+1,1,none⟩) k1 (λ _=>rfl) x1;have k3:=Zc.setCell (p:=⟨w.heap.size+1,2,none⟩) k2 (λ _=>rfl) x2;have k4:=Zc.setCell (p:=⟨w.heap.size+1,3,none⟩) k3 (λ _=>rfl) x3;exact ⟨⟨Zb s3 0,Zb s3 1,Zb s3 2,Zb s3 3⟩,k4,Zc.trans (KW.trans' hk) k4 (λ i hi e=>by omega)⟩
 have CP:=CPP W1 KW;obtain ⟨b0,b1,b2⟩:=BX.out W1 (Zc.refl _ _)
 have HR0:Hid (0<R.length->∃ b off,ro=some ⟨b,off,none⟩∧∀ ww,Za W1 ww->ww.cell? ⟨b,off,none⟩=some (.int .i64 (R.headD (0,[],[])).1)):=λ hp=>by
  obtain ⟨b,off,e,hb,ao,ac,bo,bc,r0,_⟩:=h.rs.get hp;refine ⟨b,off,e,λ ww hk=>?_⟩;have r0' : w.cell? ⟨b,off,none⟩=some (.int .i64 R[0].1):=by simpa using r0
  have e2:R.headD (0,[],[])=R[0]:=by
   cases R with
   | nil=>simp at hp
   | cons x r=>rfl
  rw [e2];exact ((KW.trans' hk).cell (p:=⟨b,off,none⟩) hb (λ f=>f)).trans r0'
 by_cases h0:N=0
 ·have hg:=Zb2 (L:=L) (n:=n) (P:=P) (by rw [<- HN.out];exact h0)
  rw [hg];clear h hg HH CPP CBB HN hN HR0;subst h0;generalize Zfa R P.length=z at *
  go_enter func92,ntmps92
  go_upto_region 1 with fail
  rw [<- hW1];clear hW1
  go_upto_region 3 with ((go_at_call 132;refine CP.mono ?_;rintro e w2 ⟨rfl,k2⟩;obtain ⟨c0,c1,c2⟩:=BX.out w2 k2;obtain ⟨⟨r0,r1,r2,r3⟩,f0,f1,f2,f3⟩:=RC.out w2 k2))
  go_wp2;obtain ⟨⟨g0,g1,g2,g3⟩,kk,ks⟩:=PUT.out w2 (.int .i64 3) (.int .i64 0) (.slice none 0 0) (.slice none 0 0) k2;exact bodyPost_ret (v:=.agg #[.int .i64 3,.int .i64 0,.slice none 0 0,.slice none 0 0]) (by simp [results,results92,go_sem,g0,g1,g2,g3]) rfl ⟨_,rfl,Zhv _ _ _ _ _,ks⟩
 ·have hb0:((N:Int) == 0)=false:=by simpa using h0
  have hR0:¬ R.length=0:=by rw [<- HN.out];exact h0
  cases hp:Y6 R P.length with
  | some c=>
   obtain ⟨hc,_⟩:=Zcd hp;have hz:Zfa R P.length=(c:Int):=by unfold Zfa;rw [hp]
   rw [hz] at CP;rw [Zaa hR0 hp];have i1:(0:Int)<=(c:Int):=by omega
   have CB:Hid (∀ ww,Za W1 ww->Calls prog 133 #[.agg #[.pointer (some ⟨bs,0,none⟩),.slice po P.length pc,.slice ro N rc],.int .i64 (c:Int)] ww (Zba ww (BrF L n P R c))):=λ ww hk=>CBB c hc ww (KW.trans' hk);cases hbr:BrF L n P R c with
   | ok t=>
    rw [hbr] at CB
    have CB2:Hid (∀ ww,Za W1 ww->Calls prog 133 #[.agg #[.pointer (some ⟨bs,0,none⟩),.slice po P.length pc,.slice ro N rc],.int .i64 (c:Int)] ww λ e w' => ∃ tk tr tpo tpl tpc tko tkl tkc,e=.returned (.agg #[.int .i64 tk,.int .i64 tr,.slice tpo tpl tpc,.slice tko tkl tkc])∧Hid (CsB (λ b=>ww.heap.size<=b) w' (n+1) (.agg #[.int .i64 tk,.int .i64 tr,.slice tpo tpl tpc,.slice tko tkl tkc]) t)∧Za ww w'):=λ ww hk=>by
     refine (CB.out ww hk).mono ?_;rintro e w' ⟨v,rfl,h1,h2⟩;obtain ⟨tk,tr,tpo,tpl,tpc,tko,tkl,tkc,rfl⟩:=h1.shape;exact ⟨tk,tr,tpo,tpl,tpc,tko,tkl,tkc,rfl,h1,h2⟩
    clear h HH CPP CBB HN hN hR0 CB hbr hp hz h0 HR0
    go_enter func92,ntmps92
    go_upto_region 1 with fail
    rw [<- hW1];clear hW1
    go_upto_region 5 with ((go_at_call 132;refine CP.mono ?_;rintro e w2 ⟨rfl,k2⟩;obtain ⟨c0,c1,c2⟩:=BX.out w2 k2))
    have CB3:=CB2.out w2 k2
    go_wp2_with ((go_at_call 133;refine CB3.mono ?_;rintro e w3 ⟨tk,tr,tpo,tpl,tpc,tko,tkl,tkc,rfl,hcs,k3⟩;obtain ⟨⟨r0,r1,r2,r3⟩,f0,f1,f2,f3⟩:=RC.out w3 (k2.trans' k3)))
    obtain ⟨⟨g0,g1,g2,g3⟩,kk,ks⟩:=PUT.out w3 (.int .i64 tk) (.int .i64 tr) (.slice tpo tpl tpc) (.slice tko tkl tkc) (k2.trans' k3);have z2:=k2.size;exact bodyPost_ret (v:=.agg #[.int .i64 tk,.int .i64 tr,.slice tpo tpl tpc,.slice tko tkl tkc]) (by simp [results,results92,go_sem,g0,g1,g2,g3]) rfl ⟨_,rfl,CsB.mono (λ b hb q=>by have:w2.heap.size<=b:=q;omega) (CsB.kept kk (λ b q e=>by have:w2.heap.size<=b:=q;omega) hcs.out),ks⟩
   | error z=>
    rw [hbr] at CB
    have CB2:Hid (∀ ww,Za W1 ww->Calls prog 133 #[.agg #[.pointer (some ⟨bs,0,none⟩),.slice po P.length pc,.slice ro N rc],.int .i64 (c:Int)] ww λ e w' => ∃ b,e=.panicked [{ v:=.iface 114 (.pointer (some ⟨b,0,none⟩)),recovered:=false }]∧Hid (w'.heap[b]? = some (.cells #[.int .i64 82,.int .i64 z,.nilIface] 116 (0,0)))∧Za ww w'):=λ ww hk=>by
     refine (CB.out ww hk).mono ?_;rintro e w' ⟨⟨b,h1,h2⟩,h3⟩;exact ⟨b,h1,h2,h3⟩
    clear h HH CPP CBB HN hN hR0 CB hbr hp hz h0 HR0
    go_enter func92,ntmps92
    go_upto_region 1 with fail
    rw [<- hW1];clear hW1
    go_upto_region 5 with ((go_at_call 132;refine CP.mono ?_;rintro e w2 ⟨rfl,k2⟩;obtain ⟨c0,c1,c2⟩:=BX.out w2 k2))
    have CB3:=CB2.out w2 k2
    go_wp2_with ((go_at_call 133;refine CB3.mono ?_;rintro e w3 ⟨b,rfl,hb,k3⟩))
    exact ⟨rfl,⟨b,rfl,hb.out⟩,(KW.trans' k2).trans' k3⟩
  | none=>
   have hz:Zfa R P.length = -1:=by unfold Zfa;rw [hp]
   rw [hz] at CP;obtain ⟨rb,roff,rfl,HRC⟩:=HR0.out (by omega);have HRD:Hid (∀ ww,Za W1 ww->ww.cell? ⟨rb,roff,none⟩=some (.int .i64 (R.headD (0,[],[])).1)):=HRC;have i1:(0:Int)<(N:Int):=by omega
   by_cases h1:N=1
   ·rw [Zce (by rw [<- HN.out];exact h1) hp]
    have hb1:((N:Int) == 1)=true:=by subst h1;rfl
    clear h HH CPP CBB HN hN hR0 hp hz h0 HRC HR0 h1;generalize (R.headD (0,[],[])).1=z at *
    go_enter func92,ntmps92
    go_upto_region 1 with fail
    rw [<- hW1];clear hW1
    go_upto_region 7 with ((go_at_call 132;refine CP.mono ?_;rintro e w2 ⟨rfl,k2⟩;obtain ⟨c0,c1,c2⟩:=BX.out w2 k2))
    obtain ⟨⟨r0,r1,r2,r3⟩,f0,f1,f2,f3⟩:=RC.out w2 k2;have d0:=HRD.out w2 k2;go_wp2;obtain ⟨⟨g0,g1,g2,g3⟩,kk,ks⟩:=PUT.out w2 (.int .i64 1) (.int .i64 z) (.slice none 0 0) (.slice none 0 0) k2;exact bodyPost_ret (v:=.agg #[.int .i64 1,.int .i64 z,.slice none 0 0,.slice none 0 0]) (by simp [results,results92,go_sem,g0,g1,g2,g3]) rfl ⟨_,rfl,Zhv _ _ _ _ _,ks⟩
   ·rw [Zcb hR0 (by rw [<- HN.out];exact h1) hp]
    have hb1:((N:Int) == 1)=false:=by simp;omega
    clear h HH CPP CBB HN hN hR0 hp hz h0 HRC HR0 h1;generalize (R.headD (0,[],[])).1=z at *
    go_enter func92,ntmps92
    go_upto_region 1 with fail
    rw [<- hW1];clear hW1
    go_upto_region 8 with ((go_at_call 132;refine CP.mono ?_;rintro e w2 ⟨rfl,k2⟩;obtain ⟨c0,c1,c2⟩:=BX.out w2 k2))
    have d0:=HRD.out w2 k2;go_wp2;exact ⟨rfl,⟨_,rfl,heap_alloc_new w2 _⟩,Zc.alloc (KW.trans' k2) _⟩
theorem Zkc (L:List Sym):∀ n,Znj L n
 | 0=>λ w bs po pc P ro rc R h=>absurd h.ok.pos (Nat.lt_irrefl 0)
 | n+1=>Ztn (Zkc L n)
def RuOut (base:Nat) (w:World) (v:Value) (x:Ru):Prop:=∃ g c g' c', v=.agg #[.slice (some ⟨g,0,none⟩) x.1.length c,.slice (some ⟨g', 0,none⟩) x.2.length c']∧Yu w g c x.1∧Yu w g' c' x.2∧base<=g∧base<=g' ∧ g≠g'
theorem Zx2 {vs:List Value} (h:X6 w b bs L R lv vs) (i:Nat) (hi:i<R.length) :
  Calls prog 130 #[.pointer (some ⟨b,0,none⟩),.int .i64 (i:Int)] w λ e w' => ∃ v,e=.returned (.tuple #[v,.int .i64 0])∧RuOut w.heap.size w' v R[i]∧Za w w' := by
 have K:Za w (w.alloc (.cells #[.slice none 0 0,.slice none 0 0] 90)):=(Zc.refl _ w).alloc _;have hz:=Yr (h.ok _ (List.getElem_mem hi));have hle:=h.le;obtain ⟨ro,rc,rfl,hR⟩:=h.read;have hR1:=hR.same K;have C:=hR1.cells.2;obtain ⟨gb,goff,rfl,hgb,ao,ac,bo,bc,r0,r1,A1,A2⟩:=hR1.rs.get hi;have CC:=Zav (ac:=ac) (bc:=bc) (x:=R[i]) A1.at' A2.at' hz.1.1 hz.2.1 hz.1.2 hz.2.2;have G0:=heap_alloc_new w (.cells #[.slice none 0 0,.slice none 0 0] 90);have HF:Hid (∀ ww,Za (w.alloc (.cells #[.slice none 0 0,.slice none 0 0] 90)) ww->(ww.cell? ⟨w.heap.size,0,none⟩=some (.slice none 0 0)∧ww.cell? ⟨w.heap.size,1,none⟩=some (.slice none 0 0))∧ww.frozen? ⟨w.heap.size,0,none⟩=false∧ww.frozen? ⟨w.heap.size,1,none⟩=false):=λ ww hk=>⟨⟨Zb (hk.at0 G0) 0,Zb (hk.at0 G0) 1⟩,Zg (hk.at0 G0) 0,Zg (hk.at0 G0) 1⟩
 have HR:Hid (∀ ww (A B:Value),Za (w.alloc (.cells #[.slice none 0 0,.slice none 0 0] 90)) ww->((ww.setCell ⟨w.heap.size,0,none⟩ A).setCell ⟨w.heap.size,1,none⟩ B).cell? ⟨w.heap.size,0,none⟩=some A∧((ww.setCell ⟨w.heap.size,0,none⟩ A).setCell ⟨w.heap.size,1,none⟩ B).cell? ⟨w.heap.size,1,none⟩=some B):=λ ww A B hk=>by
  have b:=Zt (Zt (hk.at0 G0) 0 A) 1 B;exact ⟨Zb b 0,Zb b 1⟩
 have HE:Hid (∀ ww (A B:Value),Za (w.alloc (.cells #[.slice none 0 0,.slice none 0 0] 90)) ww->Za w ((ww.setCell ⟨w.heap.size,0,none⟩ A).setCell ⟨w.heap.size,1,none⟩ B)):=λ ww A B hk=>((K.trans' hk).setCell (λ h=>absurd h (by simp)) _).setCell (λ h=>absurd h (by simp)) _
 have HT:Hid (∀ ww g c xs (A B:Value),Yu ww g c xs->w.heap.size+1<=g->Yu ((ww.setCell ⟨w.heap.size,0,none⟩ A).setCell ⟨w.heap.size,1,none⟩ B) g c xs):=λ ww g c xs A B ht hg=>by
  have k:Zc (λ k=>k=w.heap.size) ww ((ww.setCell ⟨w.heap.size,0,none⟩ A).setCell ⟨w.heap.size,1,none⟩ B):=Zc.setCell (p:=⟨w.heap.size,1,none⟩) (Zc.setCell (p:=⟨w.heap.size,0,none⟩) (Zc.refl (λ k=>k=w.heap.size) ww) (λ _=>rfl) A) (λ _=>rfl) B;exact k.row ht (λ i e=>by simp [Value.ownBlock] at e;omega)
 have i1:(0:Int)<=(i:Int):=by omega
 have i2:(i:Int)<(R.length:Int):=by omega
 clear h hR hR1 K A1 A2 hz G0;simp only [World.size_alloc] at CC
 go_enter func130,ntmps130
 go_wp2_with ((go_at_call 81;refine CC.mono ?_;rintro e w2 ⟨g,c,g', c', rfl,t1,t2,q1,q2,q3,hk2⟩;obtain ⟨⟨c1,c2⟩,f1,f2⟩:=HF.out _ hk2))
 exact bodyPost_ret (v:=.tuple #[.agg #[.slice (some ⟨g,0,none⟩) R[i].1.length c,.slice (some ⟨g', 0,none⟩) R[i].2.length c'],.int .i64 0]) (by obtain ⟨r0,r1⟩:=HR.out w2 (.slice (some ⟨g,0,none⟩) R[i].1.length c) (.slice (some ⟨g', 0,none⟩) R[i].2.length c') hk2;simp [results,results130,go_sem,r0,r1]) rfl ⟨_,rfl,⟨g,c,g', c', rfl,HT.out _ _ _ _ _ _ t1 q1,HT.out _ _ _ _ _ _ t2 q2,by omega,by omega,q3⟩,HE.out _ _ _ hk2⟩
end
section
open Go.RowKit Go.Deep
def GoodR (L:List Sym) (R:List Ru):Prop:=R.length<=100∧∀ i (h:i<R.length) (j:Nat),j+1<8->Kw L 0 (R.take i) R[i] (j+1)=true
theorem GoodR.nil (L:List Sym):GoodR L []:=⟨by simp,λ i h=>absurd h (by simp)⟩
theorem Zrz (L:List Sym) (N M:Nat) (A:List Ru) (x:Ru) (j:Nat):Kw L N A x (j+1)=Kw L M A x (j+1):=by
 match j with
 | 0=>rfl
 | 1=>rfl
 | 2=>rfl
 | 3=>rfl
 | 4=>rfl
 | 5=>rfl
 | j+6=>rfl
theorem GoodR.add (h:GoodR L R) (ha:Ans L R l []):GoodR L (R++l):=by
 refine ⟨by simpa using (ha.fit h.1).1,λ i hi j hj=>?_⟩
 by_cases hl:i<R.length
 ·rw [List.getElem_append_left hl,List.take_append_of_le_length (by omega)]
  exact h.2 i hl j hj
 ·have hm:i-R.length<l.length:=by simp at hi;omega
  have:=ha.nil (j+1) hj (i-R.length) hm;rw [List.getElem_append_right (by omega),List.take_append,List.take_of_length_le (by omega)];unfold ckB at this;rw [Zrz L _ 0] at this
  simpa [List.getD,hm] using this
structure RFacts (L:List Sym) (R:List Ru) (i:Nat) (x:Ru):Prop where
 ok:Zd L x.1=0∧Zd L x.2=0
 l1:x.1.length<=200
 l2:x.2.length<=200
 pos:0<x.1.length
 top:∀ h:0<x.1.length,Xe L x.1[0]=true
 low:∀ k (h:k<x.1.length),0<k->Xe L x.1[k]=false
 apart:∀ k (hk:k<i) (h:k<R.length),Zbc L x.1 R[k].1=true∧Zco L x.1 R[k].1=0
theorem GoodR.facts (h:GoodR L R) {i:Nat} (hi:i<R.length):RFacts L R i R[i]:=by
 have ok:∀ k (hk:k<R.length),Zd L R[k].1=0∧Zd L R[k].2=0:=λ k hk=>by
  have:=h.2 k hk 0 (by omega)
  simpa [Kw] using this
 have o:=ok i hi;have s:=h.2 i hi 1 (by omega);have t:=h.2 i hi 2 (by omega);have b:=h.2 i hi 4 (by omega);have v:=h.2 i hi 6 (by omega);have hp:=(Yr o).1.1;simp only [Kw,Bool.and_eq_true,decide_eq_true_eq] at s t b v;refine ⟨o,s.1,s.2,hp,λ hp' => ?_,λ k hk h0=>?_,λ k hk hk' => ?_⟩
 ·have e1:R[i].1.headD (-1)=R[i].1[0]:=by
   generalize R[i].1=y at *;cases y with
   | nil=>simp at hp
   | cons y r=>simp
  rw [<- e1];exact t
 ·have:=List.all_eq_true.1 b R[i].1[k] (by
   rw [List.mem_iff_getElem]
   exact ⟨k-1,by simp;omega,by simp;congr 1;omega⟩)
  simpa using this
 ·have:=List.all_eq_true.1 v R[k] (by
   rw [List.mem_iff_getElem]
   exact ⟨k,by simp;omega,by simp⟩)
  have ok' := ok k hk';rw [Zmj ok'.1 o.1] at this;exact ⟨by simpa using this,by simp [Zco,o.1,ok'.1]⟩
structure ArgR (w:World) (lo:Option Addr) (l:List Ru) (cap:Nat):Prop where
 at' : Vh w lo l
 cap' : l.length<=cap
 size:l.length * 48<=140737488351232
section
variable {H : Type} {enc : TypeId × Value -> H} {w : World} {spare : Nat -> Bool} {held : Bool}
end
end
section
open Go.RowKit
attribute [local go_sem ↓] Go.wp_at_zero Go.wp_at_succ
theorem Zva:∀ {o:List Int} {v:Int},v∈vs o t->v∈o∨∃ n∈t,isV n=true∧v = -n:=by
 induction t with
 | nil=>intro o v h;exact .inl h
 | cons x r ih=>
  intro o v h
  rcases ih (o:=Y1 o x) h with q | ⟨n,h1,h2,h3⟩
  ·unfold Y1 at q
   split at q
   ·rename_i hx
    rcases List.mem_append.1 q with q | q
    ·exact .inl q
    ·simp at q;exact .inr ⟨x,by simp,hx.1,q⟩
   ·exact .inl q
  ·exact .inr ⟨n,by simp [h1],h2,h3⟩
theorem Zc7 (ht:∀ n∈t, -99<=n) {v:Int}:v∈Zx t ↔ -v∈t∧0<v:=by
 constructor
 ·intro h
  rcases Zva h with q | ⟨n,h1,h2,h3⟩
  ·simp at q
  ·have:=Zhc.1 h2
   subst h3;exact ⟨by simpa using h1,by omega⟩
 ·rintro ⟨h1,h2⟩
  have h3:=ht _ h1;have:=vs_mem (o:=[]) h1 (Zhc.2 ⟨h3,by omega⟩)
  simpa [Zx] using this
theorem Zzy {a b:List Int} (ha:∀ n∈a, -99<=n) (hb:∀ n∈b, -99<=n):(Zx b).all (λ v=>inB (Zx a) v)=b.all (λ n=>!Kq a n):=by
 rw [Bool.eq_iff_iff,List.all_eq_true,List.all_eq_true];constructor
 ·intro h n hn
  by_cases h0:n<0
  ·have:=h (-n) ((Zc7 hb).2 ⟨by simpa using hn,by omega⟩)
   simp only [inB,decide_eq_true_eq] at this;have:=(Zc7 ha).1 this;simp [Kq];exact .inr (by simpa using this.1)
  ·simp [Kq];exact .inl (by omega)
 ·intro h v hv
  obtain ⟨h1,h2⟩:=(Zc7 hb).1 hv;have:=h _ h1;simp [Kq] at this;simp only [inB,decide_eq_true_eq];refine (Zc7 ha).2 ⟨?_,h2⟩
  rcases this with q | q
  ·omega
  ·exact q
theorem Zhp (h:Rl n w rv L) (x:Int):Calls prog 97 #[rv,.int .i64 x] w λ e w' => e=.returned (.bool (Xe L x))∧w' = w:=by
 have hlen:=h.2.2.2
 by_cases hx:x<0∨(L.length:Int)<=x
 ·have H:Hid (Xe L x=false):=Zd4 hx
  obtain ⟨ro,rc,rfl⟩:=Zf h.1
  rcases hx with hx | hx
  ·have hx' : ¬ (0:Int)<=x:=by omega
   go_enter func97,ntmps97
   go_wp2;go_ret;exact ⟨by rw [H.out];rfl,rfl⟩
  ·have hx' : (0:Int)<=x:=by omega
   have hx'' : ¬ x<(L.length:Int):=by omega
   go_enter func97,ntmps97
   go_wp2;go_ret;exact ⟨by rw [H.out];rfl,rfl⟩
 ·obtain ⟨i,rfl⟩:∃ i:Nat,x=(i:Int):=⟨x.toNat,by omega⟩
  have hi:i<L.length:=by omega
  have H:Hid (Xe L (i:Int)=L[i].df):=Zg1 hi
  rcases h.1.2 with ⟨_,h0⟩ | ⟨g,cap,cur,rfl,_,hg,_⟩
  ·omega
  ·have hc:=h.1.cells (g:=g) rfl _ _ (Kf hi).2.2
   rw [Xb,Nat.zero_add] at hc;have i1:(0:Int)<=(i:Int):=by omega
   have i2:(i:Int)<(L.length:Int):=by omega
   clear h hg
   go_enter func97,ntmps97
   go_wp2;go_ret;exact ⟨by rw [H.out];rfl,rfl⟩
theorem Zk2 (ht:Zh w ao t) (hm:t.length<=2000) :
  Calls prog 190 #[.slice ao t.length ac] w λ e w' => e=.returned (.bool (decide (Zay t=(Zx t).length)))∧Za w w' := by
 have CV:=Zeh (cap:=ac) ht (by omega);have hvl:(Zx t).length<=t.length:=by have:=Zf7 [] t;simpa [Zx] using this
 have E:Hid (∀ q:Bool,(q=true ↔ Zay t=(Zx t).length)->q=decide (Zay t=(Zx t).length)):=λ q h=>by cases q <;> simp_all
 go_enter func190,ntmps190
 go_wp2
 go_loop [3,4] (λ s i=>∃ k:Nat,k<=t.length∧i=.int .i64 (k:Int)∧s=.int .i64 ((Zay (t.take k):Nat):Int)) (λ _ i=>t.length-(intOf i).toNat)
 case atStart=>exact ⟨0,Nat.zero_le _,rfl,rfl⟩
 case round=>
  obtain ⟨k,hk,rfl,rfl⟩:=hrel;have b0:=Zld (t.take k);have b1:Zay (t.take k)<=2000:=by rw [List.length_take] at b0;omega
  clear b0
  by_cases hlt:k<t.length
  ·obtain ⟨tb,off', rfl,_,hcell⟩:=ht.get hlt
   have i1:(0:Int)<=(k:Int):=by omega
   have i2:(k:Int)<(t.length:Int):=by omega
   have N:Hid (Zay (t.take (k+1))=Zay (t.take k)+if t[k]<0 then 1 else 0):=Zi5 hlt;generalize Zay (t.take k)=m at *
   by_cases hneg:t[k]<0
   ·go_wp2
    exact ⟨⟨k+1,by omega,by go_num,by rw [N.out,if_pos hneg];go_num⟩,by simp [intOf];omega⟩
   ·go_wp2
    exact ⟨⟨k+1,by omega,by go_num,by rw [N.out,if_neg hneg];rfl⟩,by simp [intOf];omega⟩
  ·obtain rfl:k=t.length:=by omega
   rw [List.take_length] at b1 ⊢
   go_wp2_with ((go_at_call 223;refine CV.mono ?_;rintro e w2 ⟨v,rfl,hr,hk2⟩;obtain ⟨vo,vc,rfl⟩:=Zf hr))
   go_ret;exact ⟨Z5 (E.out _ (by simp;try omega)),hk2⟩
theorem Zoq (h:Rl n w rv L) (ht:Zh w ao t) (hm:t.length<=2000) :
  Calls prog 191 #[rv,.slice ao t.length ac] w λ e w' => e=.returned (.bool (t.tail.all (λ n=>!Xe L n)))∧w' = w:=by
 have CD:=λ x=>Zhp h x;obtain ⟨ro,rc,rfl⟩:=Zf h.1
 go_enter func191,ntmps191
 go_wp2
 go_loop [5] (λ i=>∃ k:Nat,1<=k∧i=.int .i64 (k:Int)∧(k<=t.length∨k=1)∧Hid ((t.tail.take (k-1)).all (λ n=>!Xe L n)=true)) (λ i=>t.length+1-(intOf i).toNat)
 case atStart=>exact ⟨1,by omega,rfl,.inr rfl,by show _=_;simp⟩
 case round=>
  obtain ⟨k,hk1,rfl,hk2,ha⟩:=hrel
  by_cases hlt:k<t.length
  ·obtain ⟨tb,off', rfl,_,hcell⟩:=ht.get hlt
   have i1:(0:Int)<=(k:Int):=by omega
   have i2:(k:Int)<(t.length:Int):=by omega
   have C:=CD t[k]
   have e0:t.tail[k-1]? = some t[k]:=by
    rw [List.getElem?_tail];have:k-1+1=k:=by omega
    rw [this,List.getElem?_eq_getElem hlt]
   cases hq:Xe L t[k] with
   | true=>
    have H:Hid (t.tail.all (λ n=>!Xe L n)=false):=by
     show _=_;rw [List.all_eq_false];exact ⟨t[k],List.mem_of_getElem? e0,by simp [hq]⟩
    rw [hq] at C;clear hq ha e0
    go_wp2_with ((go_at_call 97;refine C.mono ?_;rintro e w2 ⟨rfl,rfl⟩))
    go_ret;exact ⟨by rw [H.out];rfl,rfl⟩
   | false=>
    have H:Hid ((t.tail.take (k+1-1)).all (λ n=>!Xe L n)=true):=by
     have:=ha.out;have e1:k+1-1=(k-1)+1:=by omega
     show _=_;rw [e1,List.take_add_one,e0,List.all_append,this];simp [hq]
    rw [hq] at C;clear hq ha e0
    go_wp2_with ((go_at_call 97;refine C.mono ?_;rintro e w2 ⟨rfl,rfl⟩))
    exact ⟨⟨k+1,by omega,by go_num,.inl (by omega),H⟩,by simp [intOf];omega⟩
  ·have H:Hid (t.tail.all (λ n=>!Xe L n)=true):=by
    have:=ha.out;rw [List.take_of_length_le (by simp;omega)] at this;exact this
   have hlt' : ¬ (k:Int)<(t.length:Int):=by omega
   go_wp2;go_ret;exact ⟨by rw [H.out];rfl,rfl⟩
theorem Kg (w:World) (c p:Int):Calls prog 136 #[.int .i64 c,.int .i64 p] w λ e w' => ∃ v,e=.returned v∧Xh w' v [(c,p)]∧Za w w' := by
 go_enter func136,ntmps136
 go_wp2;go_ret;exact ⟨_,rfl,Ze7 w [(c,p)] _ 72 rfl (λ i hi=>by have hi' : i<1:=hi;match i,hi' with | 0,_=>exact ⟨rfl,rfl⟩) 1 rfl,(Zc.refl _ w).alloc _⟩
structure MR (w:World) (m:Nat) (ro:Option Addr) (rc:Nat) (mo:Option Addr) (mc:Nat) (L:List Sym) (R:List Ru):Prop where
 blk:w.heap[m]? = some (.cells #[.slice ro L.length rc,.slice mo R.length mc] 131 (0,0))
 rl:Rl w.heap.size w (.slice ro L.length rc) L
 rs:Vh w mo R
 nil:mo=none->mc=0
 le:R.length<=100
 ok:∀ x∈R,Zd L x.1=0
theorem Zod (h:Rl n w rv L) (hn:n<=m):Rl m w rv L:=⟨h.1,λ k e=>Nat.lt_of_lt_of_le (h.2.1 k e) hn,h.2.2⟩
theorem MR.same {w':World} {rc:Nat} (h:MR w m ro rc mo mc L R) (hk:Za w w'):MR w' m ro rc mo mc L R:=
 ⟨hk.at0 h.blk,Zod (h.rl.same hk) hk.size,h.rs.same hk,h.nil,h.le,h.ok⟩
def Zaw (L:List Sym) (R l:List Ru) (j0 j1:Nat) (ws:List (Int × Int)):Prop:=
 (ws=[]∧Yv L R l j1 0)∨∃ j n,j0<=j∧j<j1∧n<l.length∧Yv L R l j n∧ckB L R l j n=false∧ws=Xm L R l j n
theorem Zxi (hx:x=l.getD n ([],[])):ckB L R l 1 n=(decide (Zd L x.1=0) && decide (Zd L x.2=0)):=by subst hx;rfl
theorem Zxk (hx:x=l.getD n ([],[])):ckB L R l 2 n=(decide (x.1.length<=200) && decide (x.2.length<=200)):=by subst hx;rfl
theorem wr1_eq (hx:x=l.getD n ([],[])):Xm L R l 1 n=[(71,(n:Int)),(if Zd L x.1=0 then Zd L x.2 else Zd L x.1, -1)]:=by subst hx;rfl
theorem Zh2 (w:World) (a b c d:Int) {o:Obj} (ho:o=.cells #[.int .i64 a,.int .i64 b,.int .i64 c,.int .i64 d] 72 (0,0)):Xh (w.alloc o) (.slice (some ⟨w.heap.size,0,none⟩) 2 2) [(a,b),(c,d)]:=
 Ze7 w [(a,b),(c,d)] _ 72 ho (λ i hi=>by have hi' : i<2:=hi;match i,hi' with | 0,_=>exact ⟨rfl,rfl⟩ | 1,_=>exact ⟨rfl,rfl⟩) 2 rfl
theorem Zma (w:World):Xh w (.slice none 0 0) []:=⟨none,0,rfl,.inl rfl⟩
theorem Zpv {rc:Nat} (h:MR w m ro rc mo mc L R) {lo:Option Addr} {lc:Nat} (hl:Vh w lo l) (hn:l.length<=100) (hu:Yv L R l 1 0) :
  Calls prog 137 #[.pointer (some ⟨m,0,none⟩),.slice lo l.length lc] w λ e w' => ∃ ws v,e=.returned v∧Zaw L R l 1 3 ws∧Xh w' v ws∧Za w w' := by
 have M0:Za w w:=Zc.refl _ _
 go_enter func137,ntmps137
 go_wp2
 go_loopw [5] (λ i wr=>∃ n:Nat,n<=l.length∧i=.int .i64 (n:Int)∧Hid (Yv L R l 1 n)∧Za w wr) (λ i _=>l.length-(intOf i).toNat)
 case atStart=>exact ⟨0,Nat.zero_le _,rfl,hu,M0⟩
 case round=>
  clear M0 hu;obtain ⟨n,hnl,rfl,hu,hs⟩:=hrel
  by_cases hlt:n<l.length
  ·obtain ⟨lb,off,rfl,hlb,hru⟩:=(hl.same hs).get hlt
   obtain ⟨x,hx0⟩:∃ x,x=l[n]:=⟨_,rfl⟩;rw [<- hx0] at hru;have hx:x=l.getD n ([],[]):=by rw [hx0];simp [List.getD,hlt]
   obtain ⟨ao,ac,bo,bc,r0,r1,A1,A2⟩:=hru;have i1:(0:Int)<=(n:Int):=by omega
   have i2:(n:Int)<(l.length:Int):=by omega
   have hm1:=h.same hs;have HS:Hid (∀ ww,Za wr ww->ww.cell? ⟨m,0,none⟩=some (.slice ro L.length rc)∧ww.cell? ⟨lb,off+n * 2,none⟩=some (.slice ao x.1.length ac)∧ww.cell? ⟨lb,off+n * 2+1,none⟩=some (.slice bo x.2.length bc)):=λ ww hk=>⟨Zb (hm1.same hk).blk 0,(hk.cell (p:=⟨lb,off+n * 2,none⟩) hlb (λ f=>f)).trans r0,(hk.cell (p:=⟨lb,off+n * 2+1,none⟩) hlb (λ f=>f)).trans r1⟩;have s1:=A1.size;have s2:=A2.size;have C1:Hid (∀ ww,Za wr ww->Calls prog 189 #[.slice ro L.length rc,.slice ao x.1.length ac] ww λ e w' => e=.returned (.int .i64 (Zd L x.1))∧Za wr w'):=λ ww hk=>(Zf3 (hm1.same hk).rl (A1.same hk).at' (by unfold maxLen;omega)).mono (λ e w' ⟨q1,q2⟩=>⟨q1,by rw [q2];exact hk⟩);have C2:Hid (∀ ww,Za wr ww->Calls prog 189 #[.slice ro L.length rc,.slice bo x.2.length bc] ww λ e w' => e=.returned (.int .i64 (Zd L x.2))∧Za wr w'):=λ ww hk=>(Zf3 (hm1.same hk).rl (A2.same hk).at' (by unfold maxLen;omega)).mono (λ e w' ⟨q1,q2⟩=>⟨q1,by rw [q2];exact hk⟩);have CC0:=HS.out wr (Zc.refl _ _);have W1:Za wr wr.drew:=Zc.drew (Zc.refl _ _);have P0:Hid (Zd L x.1=0->Zd L x.2=0->Yv L R l 1 (n+1)):=λ q1 q2=>hu.out.step (by rw [Zxi hx];simp [q1,q2]);have P1:Hid (¬ (Zd L x.1=0∧Zd L x.2=0)->Zaw L R l 1 3 [(71,(n:Int)),(if Zd L x.1=0 then Zd L x.2 else Zd L x.1, -1)]):=λ q=>.inr ⟨1,n,by omega,by omega,hlt,hu.out,by rw [Zxi hx];simpa using q,(wr1_eq hx).symm⟩;clear r0 r1 A1 A2 hm1 hx hx0 hu h hl
   by_cases hz:Zd L x.1=0
   ·have zz:(Zd L x.1 == 0)=true:=by simpa using hz
    go_wp2
    go_region_held3 (λ w' => w'.cell? ⟨m,0,none⟩=some (.slice ro L.length rc)∧w'.cell? ⟨lb,off+n * 2,none⟩=some (.slice ao x.1.length ac)∧w'.cell? ⟨lb,off+n * 2+1,none⟩=some (.slice bo x.2.length bc)) (first | exact cc1 | exact CC0) ((go_at_call 189;refine (C1.out _ W1).mono ?_;rintro e w2 ⟨rfl,hw2⟩;have cc1:=HS.out _ hw2))
    all_goals
     have W2:Za wr w2.drew:=Zc.drew hw2
     by_cases hq:Zd L x.2=0
     ·have zq:(Zd L x.2 == 0)=true:=by simpa using hq
      go_wp2
      go_region_held3 (λ w' => w'.cell? ⟨m,0,none⟩=some (.slice ro L.length rc)∧w'.cell? ⟨lb,off+n * 2,none⟩=some (.slice ao x.1.length ac)∧w'.cell? ⟨lb,off+n * 2+1,none⟩=some (.slice bo x.2.length bc)) (first | exact cc2 | exact cc1) ((go_at_call 189;refine (C2.out _ W2).mono ?_;rintro e w3 ⟨rfl,hw3⟩;have cc2:=HS.out _ hw3))
      all_goals
       have P:=P0.out hz hq;clear P0 P1;go_wp2;exact ⟨⟨n+1,by omega,by go_num,P,hs.trans' hw3⟩,by simp [intOf];omega⟩
     ·have zq:(Zd L x.2 == 0)=false:=by simpa using hq
      go_wp2
      go_region_held3 (λ w' => w'.cell? ⟨m,0,none⟩=some (.slice ro L.length rc)∧w'.cell? ⟨lb,off+n * 2,none⟩=some (.slice ao x.1.length ac)∧w'.cell? ⟨lb,off+n * 2+1,none⟩=some (.slice bo x.2.length bc)) (first | exact cc2 | exact cc1) ((go_at_call 189;refine (C2.out _ W2).mono ?_;rintro e w3 ⟨rfl,hw3⟩;have cc2:=HS.out _ hw3))
      all_goals
       have P:Hid (Zaw L R l 1 3 [(71,(n:Int)),(Zd L x.2, -1)]):=by
        have:=P1.out (λ q=>hq q.2)
        rwa [if_pos hz] at this
       clear P0 P1;go_wp2;go_ret;exact ⟨_,_,rfl,P.out,Zh2 w3 _ _ _ _ rfl,hs.trans' (Zc.alloc hw3 _)⟩
   ·have zz:(Zd L x.1 == 0)=false:=by simpa using hz
    have P:Hid (Zaw L R l 1 3 [(71,(n:Int)),(Zd L x.1, -1)]):=by
     have:=P1.out (λ q=>hz q.1)
     rwa [if_neg hz] at this
    clear P0 P1;go_wp2
    go_region_held3 (λ w' => w'.cell? ⟨m,0,none⟩=some (.slice ro L.length rc)∧w'.cell? ⟨lb,off+n * 2,none⟩=some (.slice ao x.1.length ac)∧w'.cell? ⟨lb,off+n * 2+1,none⟩=some (.slice bo x.2.length bc)) (first | exact cc1 | exact CC0) ((go_at_call 189;refine (C1.out _ W1).mono ?_;rintro e w2 ⟨rfl,hw2⟩;have cc1:=HS.out _ hw2))
    all_goals
     go_wp2;go_ret;exact ⟨_,_,rfl,P.out,Zh2 w2 _ _ _ _ rfl,hs.trans' (Zc.alloc hw2 _)⟩
  ·have hu2:Hid (Yv L R l 2 0):=hu.out.next (by omega)
   have hlt' : ¬ (n:Int)<(l.length:Int):=by omega
   clear hu hlt;go_wp2
   go_loopw [7] (λ i wr=>∃ n:Nat,n<=l.length∧i=.int .i64 (n:Int)∧Hid (Yv L R l 2 n)∧Za w wr) (λ i _=>l.length-(intOf i).toNat)
   case atStart=>exact ⟨0,Nat.zero_le _,rfl,hu2,hs⟩
   case round=>
    clear hs hu2 hlt' hnl;obtain ⟨n,hnl,rfl,hu,hs⟩:=hrel
    by_cases hlt:n<l.length
    ·obtain ⟨lb,off,rfl,hlb,hru⟩:=(hl.same hs).get hlt
     obtain ⟨x,hx0⟩:∃ x,x=l[n]:=⟨_,rfl⟩;rw [<- hx0] at hru;have hx:x=l.getD n ([],[]):=by rw [hx0];simp [List.getD,hlt]
     obtain ⟨ao,ac,bo,bc,r0,r1,A1,A2⟩:=hru;have i1:(0:Int)<=(n:Int):=by omega
     have i2:(n:Int)<(l.length:Int):=by omega
     have P0:Hid (x.1.length<=200->x.2.length<=200->Yv L R l 2 (n+1)):=λ q1 q2=>hu.out.step (by rw [Zxk hx];simp [q1,q2]);have P1:Hid (¬ (x.1.length<=200∧x.2.length<=200)->Zaw L R l 1 3 [(72,(n:Int))]):=λ q=>.inr ⟨2,n,by omega,by omega,hlt,hu.out,by rw [Zxk hx];simpa using q,rfl⟩;clear A1 A2 hx hx0 hu h hl
     by_cases h1:x.1.length<=200
     ·have g1:¬ (200:Int)<(x.1.length:Int):=by omega
      by_cases h2:x.2.length<=200
      ·have g2:¬ (200:Int)<(x.2.length:Int):=by omega
       have P:=P0.out h1 h2;clear P0 P1;go_wp2;exact ⟨⟨n+1,by omega,by go_num,P,hs⟩,by simp [intOf];omega⟩
      ·have g2:(200:Int)<(x.2.length:Int):=by omega
       have P:=P1.out (λ q=>h2 q.2);clear P0 P1
       go_wp2_with ((go_at_call 136;refine (Kg _ _ _).mono ?_;rintro e w2 ⟨v,rfl,hv,hk2⟩))
       go_ret;exact ⟨_,_,rfl,P,hv,hs.trans' hk2⟩
     ·have g1:(200:Int)<(x.1.length:Int):=by omega
      have P:=P1.out (λ q=>h1 q.1);clear P0 P1
      go_wp2_with ((go_at_call 136;refine (Kg _ _ _).mono ?_;rintro e w2 ⟨v,rfl,hv,hk2⟩))
      go_ret;exact ⟨_,_,rfl,P,hv,hs.trans' hk2⟩
    ·have P:Hid (Zaw L R l 1 3 []):=.inl ⟨rfl,hu.out.next (by omega)⟩
     have hlt' : ¬ (n:Int)<(l.length:Int):=by omega
     clear hu hlt;go_wp2;go_ret;exact ⟨_,_,rfl,P.out,Zma _,hs⟩
def ofF (s:Int):Nat->List Ru->List Int
 | _,[]=>[]
 | k,x :: r=>(if x.1.head? = some s then [(k:Int)] else [])++ofF s (k+1) r
theorem Zoa (s:Int) (x:Ru):∀ (l:List Ru) (k:Nat),ofF s k (l ++ [x])=ofF s k l++(if x.1.head? = some s then [((k+l.length:Nat):Int)] else [])
 | [],k=>by simp [ofF]
 | y :: r,k=>by
  simp only [List.cons_append,ofF,Zoa s x r (k+1),List.append_assoc];congr 3;simp;omega
theorem Zmw {s:Int} {k:Nat} (h:k<R.length):ofF s 0 (R.take (k+1))=ofF s 0 (R.take k)++(if R[k].1.head? = some s then [(k:Int)] else []):=by
 rw [List.take_add_one,List.getElem?_eq_getElem h];show ofF s 0 (R.take k ++ [R[k]])=_;rw [Zoa];have:(R.take k).length=k:=by simp;omega
 rw [this,Nat.zero_add]
theorem Zds (s:Int):∀ (l:List Ru) (k:Nat),(ofF s k l).length<=l.length
 | [],_=>by simp [ofF]
 | x :: r,k=>by
  have:=Zds s r (k+1);simp only [ofF,List.length_append,List.length_cons];split <;> simp <;> omega
theorem Zk4 {xs:List Int} (h:0<xs.length) (s:Int):(xs.head? = some s) ↔ xs[0]=s:=by
 cases xs with
 | nil=>simp at h
 | cons x r=>simp
theorem Zxl {vs:List Value} (h:X6 w b bs L R lv vs) (s:Int) :
  Calls prog 129 #[.pointer (some ⟨b,0,none⟩),.int .i64 s] w λ e w' => ∃ v,e=.returned v∧Row w.heap.size w' v (ofF s 0 R)∧Za w w' := by
 have hok:=h.ok;have hle:=h.le;obtain ⟨ro,rc,rfl,hR⟩:=h.read;obtain ⟨c0,c1⟩:=hR.cells;have M0:Za w w:=Zc.refl _ _;clear h
 go_enter func129,ntmps129
 go_wp2
 go_loopw [5,15] (λ v i wr=>∃ k:Nat,k<=R.length∧i=.int .i64 (k:Int)∧Row w.heap.size wr v (ofF s 0 (R.take k))∧Za w wr) (λ _ i _=>R.length-(intOf i).toNat)
 case atStart=>exact ⟨0,Nat.zero_le _,rfl,World.ownsRow_nil _ _ _ _,M0⟩
 case round=>
  clear M0 c0 c1;obtain ⟨k,hk,rfl,hr,hs⟩:=hrel;obtain ⟨vo,vc,rfl⟩:=Zf hr
  by_cases hlt:k<R.length
  ·obtain ⟨gb,goff,rfl,hgb,ao,ac,bo,bc,r0,r1,A1,A2⟩:=(hR.rs.same hs).get hlt
   have hp:=(Yr (hok _ (List.getElem_mem hlt))).1.1;obtain ⟨ab,ao', rfl,hab,hcell⟩:=A1.at'.get hp;have KA:Za wr (wr.alloc (.cells #[.slice (some ⟨ab,ao', none⟩) R[k].1.length ac,.slice bo R[k].2.length bc] 90)):=Zal9;have hcell' : (wr.alloc (.cells #[.slice (some ⟨ab,ao', none⟩) R[k].1.length ac,.slice bo R[k].2.length bc] 90)).cell? ⟨ab,ao', none⟩=some (.int .i64 R[k].1[0]):=(KA.cell (p:=⟨ab,ao' + 0,none⟩) hab (λ f=>f)).trans hcell;have i1:(0:Int)<=(k:Int):=by omega
   have i2:(k:Int)<(R.length:Int):=by omega
   have i3:(0:Int)<(R[k].1.length:Int):=by omega
   have hol:=Zds s (R.take k) 0;have hol2:(ofF s 0 (R.take k)).length<=100:=by rw [List.length_take] at hol;omega
   have E:Hid (ofF s 0 (R.take (k+1))=ofF s 0 (R.take k)++(if R[k].1[0]=s then [(k:Int)] else [])):=by
    show _=_;rw [Zmw hlt];simp only [Zk4 hp]
   have hrA:Row w.heap.size (wr.alloc (.cells #[.slice (some ⟨ab,ao', none⟩) R[k].1.length ac,.slice bo R[k].2.length bc] 90)) (.slice vo (ofF s 0 (R.take k)).length vc) (ofF s 0 (R.take k)):=KA.row hr (λ _ _ f=>f);have zA:=(hs.trans' KA).size;clear hcell A1 A2 hol
   by_cases he:R[k].1[0]=s
   ·have he' : (R[k].1[0] == s)=true:=by simpa using he
    have E2:=E.out;rw [if_pos he] at E2;have E3:Hid (ofF s 0 (R.take (k+1))=ofF s 0 (R.take k) ++ [(k:Int)]):=E2;clear E E2 he
    go_upto_region 8 with fail
    obtain ⟨wa,hwa⟩:∃ wa,wa=wr.alloc (.cells #[.slice (some ⟨ab,ao', none⟩) R[k].1.length ac,.slice bo R[k].2.length bc] 90):=⟨_,rfl⟩;rw [<- hwa] at hrA zA KA hcell' ⊢;clear hwa
    go_wp2_with ((at_builtin;refine Yz rfl _ _ 51 rfl underlying51 w.heap.size (ofF s 0 (R.take k)) _ rfl hrA (k:Int) rfl zA (by omega) ?_;intro g cap w4 hr4 hk4 hat4))
    refine ⟨⟨k+1,by omega,by go_num,?_,Zc.trans (hs.trans' KA) hk4 (λ i hi e=>by have:=(hr.lt i e).1;omega)⟩,by simp [intOf];omega⟩;rw [E3.out];exact hr4
   ·have he' : (R[k].1[0] == s)=false:=by simpa using he
    have E2:=E.out;rw [if_neg he,List.append_nil] at E2;have E3:Hid (ofF s 0 (R.take (k+1))=ofF s 0 (R.take k)):=E2;clear E E2 he;go_wp2;refine ⟨⟨k+1,by omega,by go_num,?_,hs.trans' KA⟩,by simp [intOf];omega⟩;rw [E3.out];exact hrA
  ·obtain rfl:k=R.length:=by omega
   rw [List.take_length] at hr;rw [List.take_length];go_wp2;go_ret;exact ⟨_,rfl,hr,hs⟩
theorem Zzg (hR:Vh w mo R) (hle:R.length<=100) (hpos:∀ x∈R,0<x.1.length) (s:Int) :
  Calls prog 100 #[.slice mo R.length mc,.int .i64 s] w λ e w' => ∃ v,e=.returned v∧Row w.heap.size w' v (ofF s 0 R)∧Za w w' := by
 have M0:Za w w:=Zc.refl _ _
 go_enter func100,ntmps100
 go_wp2
 go_loopw [5,6] (λ v i wr=>∃ k:Nat,k<=R.length∧i=.int .i64 (k:Int)∧Row w.heap.size wr v (ofF s 0 (R.take k))∧Za w wr) (λ _ i _=>R.length-(intOf i).toNat)
 case atStart=>exact ⟨0,Nat.zero_le _,rfl,World.ownsRow_nil _ _ _ _,M0⟩
 case round=>
  clear M0;obtain ⟨k,hk,rfl,hr,hs⟩:=hrel;obtain ⟨vo,vc,rfl⟩:=Zf hr
  by_cases hlt:k<R.length
  ·obtain ⟨gb,goff,rfl,hgb,ao,ac,bo,bc,r0,r1,A1,A2⟩:=(hR.same hs).get hlt
   have hp:=hpos _ (List.getElem_mem hlt);obtain ⟨ab,ao', rfl,hab,hcell⟩:=A1.at'.get hp;have hcell' : wr.cell? ⟨ab,ao', none⟩=some (.int .i64 R[k].1[0]):=hcell;have i1:(0:Int)<=(k:Int):=by omega
   have i2:(k:Int)<(R.length:Int):=by omega
   have i3:(0:Int)<(R[k].1.length:Int):=by omega
   have hol:=Zds s (R.take k) 0;have hol2:(ofF s 0 (R.take k)).length<=100:=by rw [List.length_take] at hol;omega
   have E:Hid (ofF s 0 (R.take (k+1))=ofF s 0 (R.take k)++(if R[k].1[0]=s then [(k:Int)] else [])):=by
    show _=_;rw [Zmw hlt];simp only [Zk4 hp]
   have zA:=hs.size;clear hcell A1 A2 hol
   by_cases he:R[k].1[0]=s
   ·have he' : (R[k].1[0] == s)=true:=by simpa using he
    have E2:=E.out;rw [if_pos he] at E2;have E3:Hid (ofF s 0 (R.take (k+1))=ofF s 0 (R.take k) ++ [(k:Int)]):=E2;clear E E2 he
    go_wp2_with ((at_builtin;refine Yz rfl _ _ 51 rfl underlying51 w.heap.size (ofF s 0 (R.take k)) _ rfl hr (k:Int) rfl zA (by omega) ?_;intro g cap w4 hr4 hk4 hat4))
    refine ⟨⟨k+1,by omega,by go_num,?_,Zc.trans hs hk4 (λ i hi e=>by have:=(hr.lt i e).1;omega)⟩,by simp [intOf];omega⟩;rw [E3.out];exact hr4
   ·have he' : (R[k].1[0] == s)=false:=by simpa using he
    have E2:=E.out;rw [if_neg he,List.append_nil] at E2;have E3:Hid (ofF s 0 (R.take (k+1))=ofF s 0 (R.take k)):=E2;clear E E2 he;go_wp2;refine ⟨⟨k+1,by omega,by go_num,?_,hs⟩,by simp [intOf];omega⟩;rw [E3.out];exact hr
  ·obtain rfl:k=R.length:=by omega
   rw [List.take_length] at hr;rw [List.take_length];go_wp2;go_ret;exact ⟨_,rfl,hr,hs⟩
theorem Zjb (ao:Option Addr) (n c:Nat) (w:World):(binOp .eql 28 (.slice ao n c) (.slice none 0 0)).run prog w=.ok (.bool ao.isNone) w:=by
 cases ao <;> kernel_rfl
theorem Zt9 (n c:Nat) (w:World):Calls prog 119 #[.slice none n c] w λ e w' => e=.returned (.slice none 0 0)∧w' = w:=by
 have he:=Zjb
 go_enter func119,ntmps119
 go_wp2;go_ret;exact ⟨rfl,rfl⟩
theorem Zp6 (a:Addr) (n c:Nat) (xs:List Value) (w:World) (hl:xs.length=n * 3) (hc:∀ j u,xs[j]? = some u->w.cell? (a.add j)=some u) (h1:∀ u∈xs,u.oneCell' = true) (hn:n<=64) :
  Calls prog 119 #[.slice (some a) n c] w λ e w' => ∃ v,e=.returned v∧w'.ownsRow w.heap.size 60 3 v n xs∧Zc (λ _=>False) w w' := by
 have he:=Zjb;obtain ⟨i0,hi0,hz0,hz1,hz2⟩:=info_parts Za2
 go_enter func119,ntmps119
 have hown:(w.alloc (.cells #[] 60)).ownsRow w.heap.size 60 3 (.slice (some ⟨w.heap.size,0,none⟩) 0 0) 0 []:=World.ownsRow_made w #[] 0 (Nat.le_refl _) (by simp) (by simp)
 have hnews:∀ j u,xs[j]? = some u->(w.alloc (.cells #[] 60)).cell? (a.add j)=some u:=λ j u hu=>by
  have h:=hc j u hu;rw [Zc.cell ((Zc.refl (λ _=>False) w).alloc _) (World.block_lt_of_cell? w _ h) (λ f=>f)];exact h
 have b1:0+n<=maxLen:=by unfold maxLen;omega
 have b2:(0+n) * 32<=140737488355328:=by omega
 have b3:w.heap.size<=(w.alloc (.cells #[] 60)).heap.size:=by simp
 go_wp2_with ((at_builtin;refine wpList_append_own _ rfl _ _ 28 rfl w.heap.size 60 i0 _ 3 32 underlying28 hi0 hz0 hz1 hz2 rfl (by omega) (.slice (some ⟨w.heap.size,0,none⟩) 0 0) 0 [] rfl hown a n c xs rfl hl hnews h1 b1 b2 b3 ?_;intro v' w1 hown1 hgrow _))
 go_ret;refine ⟨v', rfl,by simpa using hown1,?_⟩;exact Zc.grown (Zc.alloc (Zc.refl _ w) _) hgrow (λ k e hk=>by simp only [Value.ownBlock,Option.some.injEq] at e;omega)
theorem Zsh {v:Value} {base:Nat} (hr:w.ownsRow base 60 3 v L.length (Zw L)) (hn:L.length<=64) :
  Calls prog 119 #[v] w λ e w' => ∃ v', e=.returned v' ∧ w'.ownsRow w.heap.size 60 3 v' L.length (Zw L)∧Zc (λ _=>False) w w' := by
 rcases hr.2 with ⟨rfl,h0⟩ | ⟨g,cap,cur,rfl,_⟩
 ·refine (Zt9 0 0 w).mono ?_
  rintro e w' ⟨rfl,rfl⟩;obtain rfl:L=[]:=List.eq_nil_of_length_eq_zero h0;exact ⟨_,rfl,World.ownsRow_nil _ _ _ _,Zc.refl _ _⟩
 ·exact Zp6 _ _ _ _ w (Ze0 L) (hr.cells rfl) (by
   intro u hu;simp only [Zw,List.mem_flatMap] at hu;obtain ⟨x,_,hx⟩:=hu;simp at hx
   rcases hx with rfl | rfl | rfl <;> rfl) hn
theorem Zbk (t xT k e:TypeId) (v:Value) (w:World) (h:prog.underlying t=some (.map k e)):(Instr.typeAssert (.iface t v) xT t false).run prog w=.ok v w:=by
 simp [Instr.typeAssert,run_underlying h,go_sem,Result.andThen]
theorem Zov {r:Nat} {es:Array MapEntry} {clock:Nat} (t:TypeId) (w:World) (hb:w.heap[r]? = some (.map es clock)) :
  (Extern.MapsClone.clone #[.iface t (.map (some r))]).run prog w=.ok (.iface t (.map (some w.heap.size))) (w.alloc (.map es clock)):=by
 refine (Sem.run_bind _ _ _ _).trans ?_;simp [MapKept.run_getObj_map hb,Result.andThen,go_sem]
theorem Zlg (b:Nat) (es:Array MapEntry) (clock:Nat) (w:World) (hb:w.heap[b]? = some (.map es clock)) :
  Calls prog 120 #[.map (some b)] w λ e w' => e=.returned (.map (some w.heap.size))∧w' = w.alloc (.map es clock):=by
 have hq:=λ w=>Zle (some b) w
 go_enter func120,ntmps120
 go_wp2;rw [run_callFunc_extern func168 (by kernel_rfl) (by kernel_rfl) (by kernel_rfl) (e:=Extern.MapsClone.clone) (by kernel_rfl),Zov 109 w hb];simp only [Result.andThen];rw [Oper.upon_value];go_wp2;rw [Zbk 109 _ _ _ _ _ underlying109];simp only [Result.andThen];rw [Oper.upon_value];go_wp2;go_ret;exact ⟨rfl,rfl⟩
theorem Zpd (w:World):Calls prog 120 #[.map none] w λ e w' => e=.returned (.map none)∧w' = w:=by
 have hq:=λ w=>Zle none w
 go_enter func120,ntmps120
 go_wp2;go_ret;exact ⟨rfl,rfl⟩
theorem Zol (h:Zct w mr L) :
  Calls prog 120 #[.map mr] w λ e w' => ∃ mr', e=.returned (.map mr')∧Zct w' mr' L∧(∀ k,mr' = some k->k=w.heap.size∧w.heap.size<w'.heap.size)∧Zc (λ _=>False) w w' := by
 cases mr with
 | none=>
  refine (Zpd w).mono ?_;rintro e w' ⟨rfl,rfl⟩;exact ⟨none,rfl,h,by simp,Zc.refl _ _⟩
 | some bm=>
  obtain ⟨n,D,⟨es,clock,hb,hF⟩,hn,hall⟩:=h;refine (Zlg bm es clock w hb).mono ?_;rintro e w' ⟨rfl,rfl⟩;exact ⟨some w.heap.size,rfl,⟨n,D,⟨es,clock,heap_alloc_new w _,hF⟩,hn,hall⟩,λ k e=>⟨by simpa using e.symm,by simp⟩,Zc.alloc (Zc.refl _ w) _⟩
theorem Yc.c0 {sv:Value} (h:Yc w b L sv mr):w.cell? ⟨b,0,none⟩=some sv:=Zb h.blk 0
theorem Yc.c1 {sv:Value} (h:Yc w b L sv mr):w.cell? ⟨b,1,none⟩=some (.map mr):=Zb h.blk 1
def Zh7 (w:World) (L:List Sym) (b' : Nat) (w' : World):Prop:=∃ sv mr,Yc w' b' L sv mr∧(∀ k,Foot b' sv mr k->w.heap.size<=k)∧Zc (λ _=>False) w w'
theorem Zr3 {w1 w2:World} {v' : Value} {mr' : Option Nat} (hn:L.length<=64) (hnm:∀ x∈L,X0 x.name=true) (hr:w2.ownsRow w.heap.size 60 3 v' L.length (Zw L)) (hm:Zct w2 mr' L) (hmk:∀ k,mr' = some k->w.heap.size<=k∧k<w2.heap.size) (hk:Zc (λ _=>False) w w2) (_e:w1=w2) :
  Zh7 w L w2.heap.size (w2.alloc (.cells #[v', .map mr'] 111)):=by
 have ha:Zc (λ _=>False) w2 (w2.alloc (.cells #[v', .map mr'] 111)):=Zc.alloc (Zc.refl _ _) _;have hr' := ha.row hr (λ _ _ f=>f);refine ⟨v', mr', ⟨heap_alloc_new w2 _,Yy hr' (Nat.zero_le _),hm.kept ha (λ _ _ f=>f),λ e=>?_,hn,hnm⟩,λ k hk' => ?_,hk.trans ha (λ _ _ f=>f)⟩
 ·have:=(hr.lt _ e).2;omega
 ·rcases hk' with e | e | e
  ·have:=hk.size;omega
  ·exact (hr.lt k e).1
  ·exact (hmk k e).1
theorem Zm1 {sv:Value} (hs:Yc w b L sv mr) :
  Calls prog 74 #[.pointer (some ⟨b,0,none⟩)] w λ e w' => ∃ b', e=.returned (.pointer (some ⟨b', 0,none⟩))∧b' < w'.heap.size∧Zh7 w L b' w' := by
 have hsD:Yc w.drew b L sv mr:=hs.kept (Zc.drew (Zc.refl (λ _=>False) w)) (λ _ _ f=>f);have q0:=hs.c0;have q1:=hs.c1;have hlen:=hs.len
 go_enter func74,ntmps74
 go_wp2_with fail
 go_region_with (first
  | (go_at_call 119;refine (Zsh (L:=L) (base:=0) (by first | exact hsD.row | exact hsB.row) hlen).mono ?_;rintro e w1 ⟨v', rfl,hv', hkv⟩;obtain ⟨ao,cp,rfl⟩:=Zf hv'; have hsA:Yc w1 b L sv mr:=(by first | exact hsB.kept hkv (λ _ _ f=>f) | exact hsD.kept hkv (λ _ _ f=>f));have qa:=hsA.c1)
  | (go_at_call 120;refine (Zol (L:=L) (by first | exact hsD.map | exact hsA.map)).mono ?_;rintro e w2 ⟨mr', rfl,hm', hmk,hkm⟩;have hsB:Yc w2 b L sv mr:=(by first | exact hsA.kept hkm (λ _ _ f=>f) | exact hsD.kept hkm (λ _ _ f=>f));have qb:=hsB.c0))
 all_goals
  go_wp2;go_ret;exact ⟨_,rfl,by simp,Zr3 hlen hs.names (hkm.row hv' (λ _ _ f=>f)) hm' (λ k e=>⟨by have h1:=(hmk k e).1;have h2:=hkv.size;simp at h2;omega,by have h1:=hmk k e;omega⟩) ((Zc.drew (Zc.refl _ w)).trans (hkv.trans hkm (λ _ _ f=>f)) (λ _ _ f=>f)) rfl⟩
theorem Zbp {vs:List Value} (h:X6 w b bs L R lv vs) :
  Calls prog 47 #[.pointer (some ⟨b,0,none⟩)] w λ e w' => ∃ b', e=.returned (.pointer (some ⟨b', 0,none⟩))∧b' < w'.heap.size∧Zh7 w L b' w' := by
 have c0:=Zb h.blk 0;obtain ⟨⟨sv,mr,hsg,_⟩,_⟩:=h.sig;have C:=Zm1 hsg;simp only [List.getElem?_toArray,List.getElem?_cons_zero] at c0;clear h hsg
 go_enter func47,ntmps47
 go_wp2_with ((go_at_call 74;refine C.mono ?_;rintro e w1 ⟨b', rfl,hb,hc⟩))
 go_ret;exact ⟨b', rfl,hb,hc⟩
theorem Ziz {vs:List Value} (h:X6 w b bs L R lv vs) :
  Calls prog 42 #[.pointer (some ⟨b,0,none⟩)] w λ e w' => ∃ b' bs' lv' vs', e=.returned (.pointer (some ⟨b', 0,none⟩))∧X6 w' b' bs' L R lv' vs' ∧ w.heap.size<=b' ∧ w.heap.size<=bs' ∧ (∀ q,lv'.ownBlock=some q->w.heap.size<=q)∧Za w w' := by
 have HS:Hid (∀ ww,Za w ww->ww.cell? ⟨b,0,none⟩=some (.pointer (some ⟨bs,0,none⟩))∧ww.cell? ⟨b,1,none⟩=some lv):=λ ww hk=>⟨Zb (hk.at0 h.blk) 0,Zb (hk.at0 h.blk) 1⟩;have CC0:=HS.out w (Zc.refl _ _);obtain ⟨ro,rc,rfl,hrd⟩:=h.read
 have CS:Hid (∀ ww,Za w ww->Calls prog 74 #[.pointer (some ⟨bs,0,none⟩)] ww λ e w' => ∃ b', e=.returned (.pointer (some ⟨b', 0,none⟩))∧ww.heap.size<=b' ∧ Hid (Sg w'.heap.size w' b' L)∧Za w w'):=λ ww hk=>by
  obtain ⟨⟨sv,mr,hsg,_⟩,ha⟩:=(h.same hk).sig;refine (Zm1 hsg).mono ?_;rintro e w' ⟨b', rfl,hb,sv', mr', h1,h2,h3⟩;exact ⟨b', rfl,h2 b' (.inl rfl),⟨⟨sv', mr', h1,λ k hk=>Ja h1 k hk⟩,ha⟩,hk.trans' h3⟩
 have CP:Hid (∀ ww,Za w ww->Calls prog 75 #[.slice ro R.length rc] ww λ e w' => ∃ vs', e=.returned (.slice (some ⟨ww.heap.size,0,none⟩) R.length R.length)∧w'.ownsRow ww.heap.size 90 2 (.slice (some ⟨ww.heap.size,0,none⟩) R.length R.length) R.length vs' ∧ Z7 w' vs' R∧Za ww w'):=λ ww hk=>Zfw (lc:=rc) (hrd.rs.same hk) h.le (λ x hx=>Yr (h.ok x hx))
 have FIN:Hid (∀ w1 w2 b' vs', Za w w1->Za w1 w2->w.heap.size<=b' -> Sg w1.heap.size w1 b' L->w2.ownsRow w1.heap.size 90 2 (.slice (some ⟨w1.heap.size,0,none⟩) R.length R.length) R.length vs' -> Z7 w2 vs' R->∃ b'' bs' lv' vs'', Ending.returned (Value.pointer (some ⟨w2.heap.size,0,none⟩))=.returned (.pointer (some ⟨b'', 0,none⟩))∧X6 (w2.alloc (.cells #[.pointer (some ⟨b', 0,none⟩),.slice (some ⟨w1.heap.size,0,none⟩) R.length R.length] 113)) b'' bs' L R lv' vs'' ∧ w.heap.size<=b'' ∧ w.heap.size<=bs' ∧ (∀ q,lv'.ownBlock=some q->w.heap.size<=q)∧Za w (w2.alloc (.cells #[.pointer (some ⟨b', 0,none⟩),.slice (some ⟨w1.heap.size,0,none⟩) R.length R.length] 113))):=by
  intro w1 w2 b' vs' s1 s2 hb hg hr ho;have ka:Za w2 (w2.alloc (.cells #[.pointer (some ⟨b', 0,none⟩),.slice (some ⟨w1.heap.size,0,none⟩) R.length R.length] 113)):=Zal9;exact ⟨w2.heap.size,b', _,vs', rfl,⟨heap_alloc_new _ _,Zbs (hg.same (s2.trans' ka)) (s2.trans' ka).size,Yy (ka.row hr (λ _ _ f=>f)) (Nat.zero_le _),ho.same ka,h.le,h.ok⟩,(s1.trans' s2).size,hb,λ q e=>by simp only [Value.ownBlock,Option.some.injEq] at e;have:=s1.size;omega,(s1.trans' s2).trans' ka⟩
 have W1:Za w w.drew:=Zc.drew (Zc.refl _ _);obtain ⟨y0,y1⟩:=CC0;have CC0:=And.intro y0 y1;clear h hrd
 go_enter func42,ntmps42
 go_wp2
 go_region_held3 (λ w' => w'.cell? ⟨b,0,none⟩=some (.pointer (some ⟨bs,0,none⟩))∧w'.cell? ⟨b,1,none⟩=some (.slice ro R.length rc)) (first | exact CC0 | exact cc2 | exact cc1 | exact HS.out _ (by first | assumption | exact Zc.alloc (by assumption) _)) (first
  | (go_at_call 75;refine (CP.out _ hk1).mono ?_;rintro e w2 ⟨vs', rfl,hr,ho,hk2⟩;have hk12:=hk1.trans' hk2;have cc2:=HS.out _ hk12)
  | (go_at_call 74;refine (CS.out _ W1).mono ?_;rintro e w1 ⟨b', rfl,hb,hg,hk1⟩;have cc1:=HS.out _ hk1))
 all_goals
  go_wp2_with fail
  go_ret;exact FIN.out _ _ _ _ hk1 hk2 (by have:w.drew.heap.size=w.heap.size:=rfl;omega) hg.out hr ho
end
end Go.Proofs.YtmjgnfkbnofjoaaGreatDoor
