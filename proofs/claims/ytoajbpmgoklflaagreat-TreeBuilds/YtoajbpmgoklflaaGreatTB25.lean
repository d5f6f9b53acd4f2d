import Derived.Test.YtoajbpmgoklflaaGreatTB17
import Derived.Test.YtoajbpmgoklflaaGreatTB19
import Derived.Test.YtoajbpmgoklflaaGreatTB20
import Derived.Test.YtoajbpmgoklflaaGreatTB24
namespace Go.Proofs.YtoajbpmgoklflaaGreat
set_option maxRecDepth 100000
set_option linter.unusedVariables false
open Go.RowKit
attribute [local go_sem ↓] Go.wp_at_zero Go.wp_at_succ
def TyK (w:World) (b:Nat):Prop:=(∃ cur,w.heap[b]? = some (.cells cur 3 (0,0)))∨∃ cur,w.heap[b]? = some (.cells cur 89 (0,0))
theorem CsO.typed {w:World}:∀ {n:Nat} {B:Nat→Prop} {v:Value} {t:Tr n},CsO B w n v t→CsO (fun b=>B b∧TyK w b) w n v t
 | 0,_,_,_,h=>h
 | n+1,B,v,(k,r,p,l),h=>by
  obtain ⟨po,pc,ko,kc,h1,⟨g1,g2,⟨us,g3⟩,g4⟩,h4,h5,h6⟩:=h
  refine ⟨po,pc,ko,kc,h1,⟨g1,fun a e=>⟨g2 a e,.inl (g1.typ a e)⟩,⟨us,g3⟩,fun g e=>⟨g4 g e,.inr (own_blk g3 e)⟩⟩,h4,h5,h6.imp id ?_⟩
  rintro ⟨b,β,e,hb,hl,hm,hc⟩
  refine ⟨b,β,e,⟨hb,?_⟩,hl,hm,fun i hi=>?_⟩
  ·subst e
   exact .inr (own_blk g3 rfl)
  ·obtain ⟨c0,c1,c2,c3,q0,q1,q2,q3,q4,q5⟩:=hc i hi
   exact ⟨c0,c1,c2,c3,q0,q1,q2,q3,q4,CsO.mono (fun b' _ q=>⟨⟨⟨q.1.1.1,q.2⟩,q.1.1.2⟩,q.1.2⟩) (CsO.typed q5)⟩
theorem FltAt.keptT {S:Nat→Prop} {w w' : World} (hk:Kept S w w') (hS:∀ b,S b→TyK w b):∀ {ws:List (Int × Int)} {v:Value},FltAt w ws v→FltAt w' ws v
 | [],_,h=>h
 | (c,p) :: r,v,h=>by
  rcases h with h | ⟨h0,b,u,h1,h2,h3⟩
  ·exact .inl h
  ·refine .inr ⟨h0,b,u,h1,hk.at h2 (fun s=>?_),FltAt.keptT hk hS h3⟩
   rcases hS b s with ⟨cur,q⟩ | ⟨cur,q⟩ <;> (rw [h2] at q;cases q)
def zeroTr:Tr 2001:=((0,0,[],[]):Int × Int × List Int × List (Int × Tr 2000))
def bldT (L:List Sym) (R:List Ru) (f:Int):Tr 2001:=if defB L f=true then (match treeF L R f.toNat with | .ok t=>t | .error _=>zeroTr) else zeroTr
def bldE (L:List Sym) (R:List Ru) (f:Int):List (Int × Int):=if defB L f=true then (match treeF L R f.toNat with | .ok _=>[] | .error z=>[(81,f),(82,z)]) else [(80,0)]
theorem smk_smt:∀ {n:Nat} {t:Tr n},SmK n t→SmT n t
 | 0,_,_=>trivial
 | n+1,(k,r,p,l),h=>⟨h.1,fun i hi=>smk_smt (h.2 i hi)⟩
theorem smT_zero:SmT 2001 zeroTr:=⟨by simp,fun i hi=>absurd hi (by simp)⟩
theorem bldE_len (L:List Sym) (R:List Ru) (f:Int):(bldE L R f).length≤2:=by
 unfold bldE
 split
 ·split <;> simp
 ·simp
theorem bldT_sm {L:List Sym} {R:List Ru} (ha:Ars L) (hL:L.length≤64) (hle:R.length≤100) (hok:∀ x∈R,checkE L x.1=0∧checkE L x.2=0) (f:Int):SmT 2001 (bldT L R f):=by
 unfold bldT
 by_cases hd:defB L f=true
 ·rw [if_pos hd]
  obtain ⟨s,rfl,hs⟩:=def_lt8 hd
  rw [Int.toNat_natCast]
  cases ht:treeF L R s with
  | ok t=>exact smk_smt (grow_GL ha hL 2001 _ _ t (root_ok ha hle hok hs) ht).sm
  | error z=>exact smT_zero
 ·rw [if_neg hd];exact smT_zero
theorem pbuild8_any {w:World} {b bs:Nat} {L:List Sym} {R:List Ru} {lv:Value} {vs:List Value} (h:StAt w b bs L R lv vs) (f:Int) :
  Calls Tryz.prog 8 #[.pointer (some ⟨b,0,none⟩),.int .i64 f] w fun e w' => ∃ tk tr tpo tpl tpc tko tkl tkc ev,e=.returned (.tuple #[.agg #[.int .i64 tk,.int .i64 tr,.slice tpo tpl tpc,.slice tko tkl tkc],ev])∧Hid (CsO (fun b=>w.heap.size≤b) w' 2001 (.agg #[.int .i64 tk,.int .i64 tr,.slice tpo tpl tpc,.slice tko tkl tkc]) (bldT L R f)∧FltAt w' (bldE L R f) ev)∧Same0 w w' := by
 refine (obuild_any h f).mono ?_
 rintro e w' ⟨hk,hp⟩
 unfold bldT bldE
 by_cases hd:defB L f=true
 ·rw [if_pos hd] at hp
  rw [if_pos hd,if_pos hd]
  cases ht:treeF L R f.toNat with
  | ok t=>
   rw [ht] at hp
   obtain ⟨v,rfl,hc⟩:=hp
   obtain ⟨tk,tr,tpo,tpl,tpc,tko,tkl,tkc,rfl⟩:=hc.shape
   exact ⟨tk,tr,tpo,tpl,tpc,tko,tkl,tkc,_,rfl,⟨hc,rfl⟩,hk⟩
  | error z=>
   rw [ht] at hp
   obtain ⟨v,rfl,hc⟩:=hp
   exact ⟨0,0,none,0,0,none,0,0,_,rfl,⟨leaf_co _ _ 2000 0 0,hc⟩,hk⟩
 ·rw [if_neg hd] at hp
  rw [if_neg hd,if_neg hd]
  obtain ⟨v,rfl,hc⟩:=hp
  exact ⟨0,0,none,0,0,none,0,0,_,rfl,⟨leaf_co _ _ 2000 0 0,hc⟩,hk⟩
theorem dbuild8_any {w:World} {rv:Value} {L:List Sym} {R:List Ru} {mo:Option Addr} (h:Rl w.heap.size w rv L) (hR:RsAt w mo R) (hle:R.length≤100) (hok:∀ x∈R,checkE L x.1=0∧checkE L x.2=0) (mc:Nat) (f:Int) :
  Calls Tryz.prog 9 #[rv,.slice mo R.length mc,.int .i64 f] w fun e w' => ∃ tk tr tpo tpl tpc tko tkl tkc wo wn wc,e=.returned (.tuple #[.agg #[.int .i64 tk,.int .i64 tr,.slice tpo tpl tpc,.slice tko tkl tkc],.slice wo wn wc])∧Hid (CsB (fun b=>w.heap.size≤b) w' 2001 (.agg #[.int .i64 tk,.int .i64 tr,.slice tpo tpl tpc,.slice tko tkl tkc]) (bldT L R f)∧WrsAt w' (.slice wo wn wc) (bldE L R f)∧FarW w (.slice wo wn wc))∧Same0 w w' := by
 refine (rbuild8_any h hR hle hok mc f).mono ?_
 rintro e w' ⟨hk,hp⟩
 unfold bldT bldE
 by_cases hd:defB L f=true
 ·rw [if_pos hd] at hp
  rw [if_pos hd,if_pos hd]
  cases ht:treeF L R f.toNat with
  | ok t=>
   rw [ht] at hp
   obtain ⟨v,rfl,hc⟩:=hp
   obtain ⟨tk,tr,tpo,tpl,tpc,tko,tkl,tkc,rfl⟩:=hc.shape
   exact ⟨tk,tr,tpo,tpl,tpc,tko,tkl,tkc,none,0,0,rfl,⟨hc,wrs_nil _,fun a l c e=>by cases e⟩,hk⟩
  | error z=>
   rw [ht] at hp
   obtain ⟨v,rfl,hc,hfar⟩:=hp
   have hc2:=hc
   obtain ⟨lo,lc,rfl,_⟩:=hc2
   exact ⟨0,0,none,0,0,none,0,0,lo,_,lc,rfl,⟨leaf_cs _ _ 2000 0 0,hc,hfar⟩,hk⟩
 ·rw [if_neg hd] at hp
  rw [if_neg hd,if_neg hd]
  obtain ⟨v,rfl,hc,hfar⟩:=hp
  have hc2:=hc
  obtain ⟨lo,lc,rfl,_⟩:=hc2
  exact ⟨0,0,none,0,0,none,0,0,lo,_,lc,rfl,⟨leaf_cs _ _ 2000 0 0,hc,hfar⟩,hk⟩
set_option maxHeartbeats 16000000 in
theorem tbuilds_walk {w:World} {ao:Option Addr} {len cap:Nat} {xs:List Sym} (hx:SymsAt w ao len xs) (hm:len≤maxLen) {po:Option Addr} {pc:Nat} {l:List Ru} (hp:ArgR w po l pc) :
  Calls Tryz.prog 3 #[.slice ao len cap,.slice po l.length pc] w fun e w' => e=.returned (.bool true)∧Below w.heap.size w w' := by
 have hpn:=ptr_nil
 have hls:l.length≤140737488355328:=by have:=hp.size;omega
 have CA:=awake8_any w
 have CS:Hid (∀ ww,Same0 w ww→Calls Tryz.prog 7 #[.slice ao len cap,.slice po l.length pc] ww (StoPost (madeL xs) l ww)):=fun ww hk=>stored_any (SymsAt.same8 hx hk) hm (hp.at'.same hk) hls hp.cap'
 generalize madeL xs=L at *
 clear hx hp hm hls
 go_enter Tryz.func3,Tryz.ntmps3
 go_upto_region 2 with (first | (go_at_call 6;refine CA.mono ?_;rintro e w1 ⟨rfl,k1⟩))
 have C1:=CS.out w1 k1
 go_upto_region 3 with (first | (go_at_call 7;refine C1.mono ?_;rintro e w2 ⟨bs,b,m,ro,rc,lv,vs,mv,ms,R,rfl,hT,hR⟩))
 have K2:Same0 w w2:=k1.trans' hT.same
 have hst:=hT.st
 have hL64:L.length≤64:=by obtain ⟨⟨sv,mr,hs,_⟩,_⟩:=hst.sig;exact hs.len
 have hArs:=hst.sig.2
 have hle:=hst.le
 have hok:=hst.ok
 have hmo:=hT.mo
 obtain ⟨mo,mc,rfl,hMR⟩:=hmo.read
 have HSM:Hid (∀ f,SmT 2001 (bldT L R f)):=bldT_sm hArs hL64 hle hok
 have PB:Hid (∀ ww f,Same0 w2 ww→Calls Tryz.prog 8 #[.pointer (some ⟨b,0,none⟩),.int .i64 f] ww fun e w' => ∃ tk tr tpo tpl tpc tko tkl tkc ev,e=.returned (.tuple #[.agg #[.int .i64 tk,.int .i64 tr,.slice tpo tpl tpc,.slice tko tkl tkc],ev])∧Hid (CsO (fun b=>ww.heap.size≤b) w' 2001 (.agg #[.int .i64 tk,.int .i64 tr,.slice tpo tpl tpc,.slice tko tkl tkc]) (bldT L R f)∧FltAt w' (bldE L R f) ev)∧Same0 ww w'):=fun ww f hk=>pbuild8_any (hst.same hk) f
 have DB:Hid (∀ ww f,Same0 w2 ww→Calls Tryz.prog 9 #[.slice ro L.length rc,.slice mo R.length mc,.int .i64 f] ww fun e w' => ∃ tk tr tpo tpl tpc tko tkl tkc wo wn wc,e=.returned (.tuple #[.agg #[.int .i64 tk,.int .i64 tr,.slice tpo tpl tpc,.slice tko tkl tkc],.slice wo wn wc])∧Hid (CsB (fun b=>ww.heap.size≤b) w' 2001 (.agg #[.int .i64 tk,.int .i64 tr,.slice tpo tpl tpc,.slice tko tkl tkc]) (bldT L R f)∧WrsAt w' (.slice wo wn wc) (bldE L R f)∧FarW ww (.slice wo wn wc))∧Same0 ww w'):=fun ww f hk=>dbuild8_any (hmo.same hk).rl (hMR.same hk).rs hle hok mc f
 have MC:Hid (∀ ww,Same0 w2 ww→ww.cell? ⟨m,0,none⟩=some (.slice ro L.length rc)∧ww.cell? ⟨m,1,none⟩=some (.slice mo R.length mc)):=fun ww hk=>⟨cellAt (hk.at0 hmo.blk) 0,cellAt (hk.at0 hmo.blk) 1⟩
 clear hT hR C1 CS CA hst k1 hmo hMR hle hok hArs
 go_wp2_with fail
 go_loopw [9] (fun i wr=>∃ z:Int, -1≤z∧z≤(L.length:Int)+1∧i=.int .i64 z∧Same0 w2 wr) (fun i _=>((L.length:Int)+1-intOf i).toNat)
 case atStart=>exact ⟨-1,by omega,by omega,rfl,Kept.refl _ _⟩
 case round=>
  obtain ⟨z,hz1,hz2,rfl,hw⟩:=hrel
  obtain ⟨m0,m1⟩:=MC.out wr hw
  by_cases hlt:z≤(L.length:Int)
  ·have PB1:=PB.out wr z hw
   have hzw:=hw.size
   go_upto_region 9 with (first | (go_at_call 8;refine PB1.mono ?_;rintro e w3 ⟨tk,tr,tpo,tpl,tpc,tko,tkl,tkc,ev,rfl,h3,k3⟩))
   obtain ⟨w4,hw4⟩:∃ w4,w4=w3.alloc (.cells #[.int .i64 tk,.int .i64 tr,.slice tpo tpl tpc,.slice tko tkl tkc] 35):=⟨_,rfl⟩
   have k34:Same0 w3 w4:=by rw [hw4];exact (Kept.refl _ _).alloc _
   have K4:Same0 w2 w4:=(hw.trans' k3).trans' k34
   have z34:w4.heap.size=w3.heap.size+1:=by rw [hw4];simp
   have HZ4:Hid (w4.heap.size=w3.heap.size+1):=z34
   have A4:Hid (w4.heap[w3.heap.size]? = some (.cells #[.int .i64 tk,.int .i64 tr,.slice tpo tpl tpc,.slice tko tkl tkc] 35 (0,0))):=by rw [hw4];exact heap_alloc_new _ _
   rw [← hw4]
   have PB2:=PB.out w4 z K4
   clear hw4 PB1 m0 m1 z34
   go_upto_region 10 with (first | (go_at_call 8;refine PB2.mono ?_;rintro e w5 ⟨uk,ur,upo,upl,upc,uko,ukl,ukc,fv,rfl,h5,k5⟩))
   obtain ⟨w6,hw6⟩:∃ w6,w6=w5.alloc (.cells #[.int .i64 uk,.int .i64 ur,.slice upo upl upc,.slice uko ukl ukc] 35):=⟨_,rfl⟩
   have k56:Same0 w5 w6:=by rw [hw6];exact (Kept.refl _ _).alloc _
   have K46:Same0 w4 w6:=k5.trans' k56
   have K6:Same0 w2 w6:=K4.trans' K46
   have A6:Hid (w6.heap[w5.heap.size]? = some (.cells #[.int .i64 uk,.int .i64 ur,.slice upo upl upc,.slice uko ukl ukc] 35 (0,0))):=by rw [hw6];exact heap_alloc_new _ _
   rw [← hw6]
   clear hw6 PB2
   have M6:=MC.out w6 K6
   have HM6:Hid (∀ ww,Same0 w6 ww→ww.cell? ⟨m,0,none⟩=some (.slice ro L.length rc)∧ww.cell? ⟨m,1,none⟩=some (.slice mo R.length mc)):=fun ww hk=>MC.out ww (K6.trans' hk)
   have DX:Hid (∀ ww,Same0 w6 ww→Calls Tryz.prog 9 #[.slice ro L.length rc,.slice mo R.length mc,.int .i64 z] ww fun e w' => ∃ tk tr tpo tpl tpc tko tkl tkc wo wn wc,e=.returned (.tuple #[.agg #[.int .i64 tk,.int .i64 tr,.slice tpo tpl tpc,.slice tko tkl tkc],.slice wo wn wc])∧Hid (CsB (fun b=>ww.heap.size≤b) w' 2001 (.agg #[.int .i64 tk,.int .i64 tr,.slice tpo tpl tpc,.slice tko tkl tkc]) (bldT L R z)∧WrsAt w' (.slice wo wn wc) (bldE L R z)∧FarW ww (.slice wo wn wc))∧Same0 ww w'):=fun ww hk=>DB.out ww z (K6.trans' hk)
   have FIN1:Hid (∀ (ww w7:World) vk vr vpo vpl vpc vko vkl vkc xo xn xc,w6.heap.size≤ww.heap.size→Same0 w6 w7→CsB (fun b=>ww.heap.size≤b) w7 2001 (.agg #[.int .i64 vk,.int .i64 vr,.slice vpo vpl vpc,.slice vko vkl vkc]) (bldT L R z)∧WrsAt w7 (.slice xo xn xc) (bldE L R z)∧FarW ww (.slice xo xn xc)→Hid (w6.heap.size≤w7.heap.size∧(w7.alloc (.cells #[.int .i64 vk,.int .i64 vr,.slice vpo vpl vpc,.slice vko vkl vkc] 35)).heap[w7.heap.size]? = some (.cells #[.int .i64 vk,.int .i64 vr,.slice vpo vpl vpc,.slice vko vkl vkc] 35 (0,0))∧CsB (fun b=>w6.heap.size≤b) (w7.alloc (.cells #[.int .i64 vk,.int .i64 vr,.slice vpo vpl vpc,.slice vko vkl vkc] 35)) 2001 (.agg #[.int .i64 vk,.int .i64 vr,.slice vpo vpl vpc,.slice vko vkl vkc]) (bldT L R z)∧WrsAt (w7.alloc (.cells #[.int .i64 vk,.int .i64 vr,.slice vpo vpl vpc,.slice vko vkl vkc] 35)) (.slice xo xn xc) (bldE L R z)∧FarW w6 (.slice xo xn xc))∧Same0 w6 (w7.alloc (.cells #[.int .i64 vk,.int .i64 vr,.slice vpo vpl vpc,.slice vko vkl vkc] 35))):=by
    intro ww w7 vk vr vpo vpl vpc vko vkl vkc xo xn xc h1 h2 ⟨h3,h4,h5⟩
    have ka:Same0 w7 (w7.alloc (.cells #[.int .i64 vk,.int .i64 vr,.slice vpo vpl vpc,.slice vko vkl vkc] 35)):=(Kept.refl _ _).alloc _
    exact ⟨⟨h2.size,heap_alloc_new w7 _,CsB.mono (fun b _ q=>by have q' : ww.heap.size≤b:=q;show w6.heap.size≤b;omega) (h3.same ka),h4.same ka,fun a l c e=>Nat.le_trans h1 (h5 a l c e)⟩,h2.trans' ka⟩
   have FIN2:Hid (∀ (ww w7:World) vk vr vpo vpl vpc vko vkl vkc xo xn xc,w6.heap.size<ww.heap.size→Same0 w6 w7→w7.heap[w6.heap.size]? = some (.cells #[.int .i64 0,.int .i64 0,.slice none 0 0,.slice none 0 0] 35 (0,0))→CsB (fun b=>ww.heap.size≤b) w7 2001 (.agg #[.int .i64 vk,.int .i64 vr,.slice vpo vpl vpc,.slice vko vkl vkc]) (bldT L R z)∧WrsAt w7 (.slice xo xn xc) (bldE L R z)∧FarW ww (.slice xo xn xc)→Hid (w6.heap.size≤w6.heap.size∧((((w7.setCell ⟨w6.heap.size,0,none⟩ (.int .i64 vk)).setCell ⟨w6.heap.size,1,none⟩ (.int .i64 vr)).setCell ⟨w6.heap.size,2,none⟩ (.slice vpo vpl vpc)).setCell ⟨w6.heap.size,3,none⟩ (.slice vko vkl vkc)).heap[w6.heap.size]? = some (.cells #[.int .i64 vk,.int .i64 vr,.slice vpo vpl vpc,.slice vko vkl vkc] 35 (0,0))∧CsB (fun b=>w6.heap.size≤b) ((((w7.setCell ⟨w6.heap.size,0,none⟩ (.int .i64 vk)).setCell ⟨w6.heap.size,1,none⟩ (.int .i64 vr)).setCell ⟨w6.heap.size,2,none⟩ (.slice vpo vpl vpc)).setCell ⟨w6.heap.size,3,none⟩ (.slice vko vkl vkc)) 2001 (.agg #[.int .i64 vk,.int .i64 vr,.slice vpo vpl vpc,.slice vko vkl vkc]) (bldT L R z)∧WrsAt ((((w7.setCell ⟨w6.heap.size,0,none⟩ (.int .i64 vk)).setCell ⟨w6.heap.size,1,none⟩ (.int .i64 vr)).setCell ⟨w6.heap.size,2,none⟩ (.slice vpo vpl vpc)).setCell ⟨w6.heap.size,3,none⟩ (.slice vko vkl vkc)) (.slice xo xn xc) (bldE L R z)∧FarW w6 (.slice xo xn xc))∧Same0 w6 ((((w7.setCell ⟨w6.heap.size,0,none⟩ (.int .i64 vk)).setCell ⟨w6.heap.size,1,none⟩ (.int .i64 vr)).setCell ⟨w6.heap.size,2,none⟩ (.slice vpo vpl vpc)).setCell ⟨w6.heap.size,3,none⟩ (.slice vko vkl vkc))):=by
    intro ww w7 vk vr vpo vpl vpc vko vkl vkc xo xn xc h1 h2 hb ⟨h3,h4,h5⟩
    have s3:=setAt (setAt (setAt (setAt hb 0 (.int .i64 vk)) 1 (.int .i64 vr)) 2 (.slice vpo vpl vpc)) 3 (.slice vko vkl vkc)
    have k1:=Kept.setCell (p:=⟨w6.heap.size,0,none⟩) (Kept.refl (fun q=>q=w6.heap.size) w7) (fun _=>rfl) (.int .i64 vk)
    have k2:=Kept.setCell (p:=⟨w6.heap.size,1,none⟩) k1 (fun _=>rfl) (.int .i64 vr)
    have k3:=Kept.setCell (p:=⟨w6.heap.size,2,none⟩) k2 (fun _=>rfl) (.slice vpo vpl vpc)
    have k4:=Kept.setCell (p:=⟨w6.heap.size,3,none⟩) k3 (fun _=>rfl) (.slice vko vkl vkc)
    exact ⟨⟨Nat.le_refl _,s3,CsB.mono (fun b _ q=>by have q' : ww.heap.size≤b:=q;show w6.heap.size≤b;omega) (CsB.kept k4 (fun b q e=>by have q' : ww.heap.size≤b:=q;have e' : b=w6.heap.size:=e;omega) h3),h4.kept8 k4 (fun b ⟨l', c', e⟩ e2=>by have h8:ww.heap.size≤b:=h5 _ l' c' e;have e' : b=w6.heap.size:=e2;omega),fun a l c e=>Nat.le_trans (Nat.le_of_lt h1) (h5 a l c e)⟩,Kept.trans h2 k4 (fun i hi e=>by have e' : i=w6.heap.size:=e;omega)⟩
   go_cut [14,15] from 55 to 67 (fun s14 s15 wc=>∃ q vk vr vpo vpl vpc vko vkl vkc xo xn xc,s14=.pointer (some ⟨q,0,none⟩)∧s15=.slice xo xn xc∧Hid (w6.heap.size≤q∧wc.heap[q]? = some (.cells #[.int .i64 vk,.int .i64 vr,.slice vpo vpl vpc,.slice vko vkl vkc] 35 (0,0))∧CsB (fun b=>w6.heap.size≤b) wc 2001 (.agg #[.int .i64 vk,.int .i64 vr,.slice vpo vpl vpc,.slice vko vkl vkc]) (bldT L R z)∧WrsAt wc (.slice xo xn xc) (bldE L R z)∧FarW w6 (.slice xo xn xc))∧Same0 w6 wc)
   case first=>
    have kd:Same0 w6 w6.drew:=(Kept.refl _ _).drew
    have zf9:∀ {w11:World},w11.heap[w6.heap.size]? = some (.cells #[.int .i64 0,.int .i64 0,.slice none 0 0,.slice none 0 0] 35 (0,0))→w11.cell? ⟨w6.heap.size,0,none⟩=some (.int .i64 0)∧w11.cell? ⟨w6.heap.size,1,none⟩=some (.int .i64 0)∧w11.cell? ⟨w6.heap.size,2,none⟩=some (.slice none 0 0)∧w11.cell? ⟨w6.heap.size,3,none⟩=some (.slice none 0 0)∧w11.frozen? ⟨w6.heap.size,0,none⟩=false∧w11.frozen? ⟨w6.heap.size,1,none⟩=false∧w11.frozen? ⟨w6.heap.size,2,none⟩=false∧w11.frozen? ⟨w6.heap.size,3,none⟩=false:=fun h=>⟨cellAt h 0,cellAt h 1,cellAt h 2,cellAt h 3,frozenAt h 0,frozenAt h 1,frozenAt h 2,frozenAt h 3⟩
    clear A4 A6 h3 h5 k3 k5 k34 k56 K46 K4 K6 HZ4 PB DB hzw hw
    go_region_held3 (fun ww=>ww.cell? ⟨m,0,none⟩=some (.slice ro L.length rc)∧ww.cell? ⟨m,1,none⟩=some (.slice mo R.length mc)) (first | exact M6 | exact cc2 | exact cc3 | exact HM6.out _ (by repeat (first | assumption | exact Kept.refl _ _ | refine Kept.alloc ?_ _ | refine Kept.drew ?_))) (first
     | (go_at_call 9;refine (DX.out _ (by repeat (first | assumption | exact Kept.refl _ _ | refine Kept.alloc ?_ _ | refine Kept.drew ?_))).mono ?_;rintro e w7 ⟨vk,vr,vpo,vpl,vpc,vko,vkl,vkc,xo,xn,xc,rfl,h7,k7⟩;have K7:Same0 w6 w7:=Same0.trans' (by repeat (first | assumption | exact Kept.refl _ _ | refine Kept.alloc ?_ _ | refine Kept.drew ?_)) k7;have cc2:=HM6.out _ K7;first | (have zb:w7.heap[w6.heap.size]? = some (.cells #[.int .i64 0,.int .i64 0,.slice none 0 0,.slice none 0 0] 35 (0,0)):=k7.at0 (heap_alloc_new w6.drew _);obtain ⟨zc0,zc1,zc2,zc3,zf0,zf1,zf2,zf3⟩:=zf9 zb;have cc3:=HM6.out _ (FIN2.out (w6.drew.alloc zeroCs) w7 vk vr vpo vpl vpc vko vkl vkc xo xn xc (by simp) K7 zb h7.out).2) | skip))
    all_goals
     go_wp2_with fail
     go_meet
     case rel=>
      first
       | exact ⟨_,vk,vr,vpo,vpl,vpc,vko,vkl,vkc,xo,xn,xc,rfl,rfl,FIN1.out w6.drew w7 vk vr vpo vpl vpc vko vkl vkc xo xn xc (Nat.le_refl _) K7 h7.out⟩
       | exact ⟨_,vk,vr,vpo,vpl,vpc,vko,vkl,vkc,xo,xn,xc,rfl,rfl,FIN2.out (w6.drew.alloc zeroCs) w7 vk vr vpo vpl vpc vko vkl vkc xo xn xc (by simp) K7 zb h7.out⟩
   case rest=>
    obtain ⟨q,vk,vr,vpo,vpl,vpc,vko,vkl,vkc,xo,xn,xc,rfl,rfl,hV,kc⟩:=hcut
    obtain ⟨wd,rfl⟩:∃ wd:World,wd=wc:=⟨_,rfl⟩
    have K4c:Same0 w4 wd:=K46.trans' kc
    have K3c:Same0 w3 wd:=k34.trans' K4c
    have K5c:Same0 w5 wd:=k56.trans' kc
    obtain ⟨S1,hS1⟩:∃ S1:Nat→Prop,S1=fun b=>(wr.heap.size≤b∧b<w3.heap.size)∧TyK w3 b:=⟨_,rfl⟩
    have HTA:Hid (CsO S1 w3 2001 (.agg #[.int .i64 tk,.int .i64 tr,.slice tpo tpl tpc,.slice tko tkl tkc]) (bldT L R z)):=by
     rw [hS1];exact CsO.mono (fun b hb q=>⟨⟨q.1,hb⟩,q.2⟩) (CsO.typed h3.out.1)
    have HS1:Hid (∀ b,S1 b→wr.heap.size≤b∧b<w3.heap.size∧TyK w3 b):=fun b q=>by rw [hS1] at q;exact ⟨q.1.1,q.1.2,q.2⟩
    have HV:Hid (∀ ww,Same0 wd ww→ww.heap[q]? = some (.cells #[.int .i64 vk,.int .i64 vr,.slice vpo vpl vpc,.slice vko vkl vkc] 35 (0,0))∧CsB (fun b=>w6.heap.size≤b) ww 2001 (.agg #[.int .i64 vk,.int .i64 vr,.slice vpo vpl vpc,.slice vko vkl vkc]) (bldT L R z)∧WrsAt ww (.slice xo xn xc) (bldE L R z)):=fun ww hk=>⟨hk.at0 hV.out.2.1,hV.out.2.2.1.same hk,hV.out.2.2.2.1.same hk⟩
    have HAA:Hid (∀ ww,Same0 wd ww→ww.cell? ⟨w3.heap.size,0,none⟩=some (.int .i64 tk)∧ww.cell? ⟨w3.heap.size,1,none⟩=some (.int .i64 tr)∧ww.cell? ⟨w3.heap.size,2,none⟩=some (.slice tpo tpl tpc)∧ww.cell? ⟨w3.heap.size,3,none⟩=some (.slice tko tkl tkc)):=fun ww hk=>by
     have h9:=(K4c.trans' hk).at0 A4.out
     exact ⟨cellAt h9 0,cellAt h9 1,cellAt h9 2,cellAt h9 3⟩
    have HVC:Hid (∀ ww,Same0 wd ww→ww.cell? ⟨q,0,none⟩=some (.int .i64 vk)∧ww.cell? ⟨q,1,none⟩=some (.int .i64 vr)∧ww.cell? ⟨q,2,none⟩=some (.slice vpo vpl vpc)∧ww.cell? ⟨q,3,none⟩=some (.slice vko vkl vkc)):=fun ww hk=>by
     have h9:=(HV.out ww hk).1
     exact ⟨cellAt h9 0,cellAt h9 1,cellAt h9 2,cellAt h9 3⟩
    have C1:=csame_any 2001 wd _ _ (bldT L R z) _ _ (HTA.out.same K3c).cs (HV.out wd (Kept.refl _ _)).2.1 (HSM.out z)
    have C2:Hid (∀ ww,Same0 wd ww→Calls Tryz.prog 11 #[.agg #[.int .i64 tk,.int .i64 tr,.slice tpo tpl tpc,.slice tko tkl tkc]] ww fun e w' => (∃ u,e=.returned u)∧Kept S1 ww w'):=fun ww hk=>spoilt8_any 2001 ww S1 _ _ (HTA.out.same (K3c.trans' hk)) (HSM.out z)
    have hz4:=HZ4.out
    have z45:=k5.size
    have z56:=k56.size
    have zw3:=k3.size
    have AFT:Hid (∀ w11 w12,Same0 wd w11→Kept S1 w11 w12→((w12.cell? ⟨w5.heap.size,0,none⟩=some (.int .i64 uk)∧w12.cell? ⟨w5.heap.size,1,none⟩=some (.int .i64 ur)∧w12.cell? ⟨w5.heap.size,2,none⟩=some (.slice upo upl upc)∧w12.cell? ⟨w5.heap.size,3,none⟩=some (.slice uko ukl ukc))∧w12.cell? ⟨q,0,none⟩=some (.int .i64 vk)∧w12.cell? ⟨q,1,none⟩=some (.int .i64 vr)∧w12.cell? ⟨q,2,none⟩=some (.slice vpo vpl vpc)∧w12.cell? ⟨q,3,none⟩=some (.slice vko vkl vkc))∧Hid (CsB (fun b=>w4.heap.size≤b) w12 2001 (.agg #[.int .i64 uk,.int .i64 ur,.slice upo upl upc,.slice uko ukl ukc]) (bldT L R z)∧CsB (fun b=>w6.heap.size≤b) w12 2001 (.agg #[.int .i64 vk,.int .i64 vr,.slice vpo vpl vpc,.slice vko vkl vkc]) (bldT L R z)∧WrsAt w12 (.slice xo xn xc) (bldE L R z)∧FltAt w12 (bldE L R z) ev∧FltAt w12 (bldE L R z) fv∧Same0 w2 w12)):=fun w11 w12 k11 k12=>by
     have far:∀ b,w3.heap.size≤b→¬ S1 b:=fun b hb s=>by have:=(HS1.out b s).2.1;omega
     have b6:=k12.at ((kc.trans' k11).at0 A6.out) (far _ (by omega))
     obtain ⟨v1,v2,v3⟩:=HV.out w11 k11
     have b7:=k12.at v1 (far _ (by have:=hV.out.1;omega))
     have T11:∀ b,S1 b→TyK w11 b:=fun b s=>by
      rcases (HS1.out b s).2.2 with ⟨cur,q⟩ | ⟨cur,q⟩
      ·exact .inl ⟨cur,(K3c.trans' k11).at0 q⟩
      ·exact .inr ⟨cur,(K3c.trans' k11).at0 q⟩
     refine ⟨⟨⟨cellAt b6 0,cellAt b6 1,cellAt b6 2,cellAt b6 3⟩,cellAt b7 0,cellAt b7 1,cellAt b7 2,cellAt b7 3⟩,CsB.kept k12 (fun b q=>far b (by have q' : w4.heap.size≤b:=q;omega)) ((h5.out.1.cs.same K5c).same k11),CsB.kept k12 (fun b q=>far b (by have q' : w6.heap.size≤b:=q;omega)) v2,v3.kept8 k12 (fun b ⟨l', c', e⟩=>far b (by have h8:w6.heap.size≤b:=hV.out.2.2.2.2 _ l' c' e;omega)),FltAt.keptT k12 T11 (FltAt.same (K3c.trans' k11) h3.out.2),FltAt.keptT k12 T11 (FltAt.same (K5c.trans' k11) h5.out.2),Kept.trans ((K6.trans' kc).trans' k11) k12 (fun i hi s=>by have:=(HS1.out i s).1;omega)⟩
    obtain ⟨a0,a1,a2,a3⟩:=HAA.out wd (Kept.refl _ _)
    obtain ⟨q0,q1,q2,q3⟩:=HVC.out wd (Kept.refl _ _)
    have HEL:Hid ((bldE L R z).length≤2):=bldE_len L R z
    clear hS1 K4c K3c K5c hV hz4 z45 z56 zw3 hzw HV h3 h5 A4 A6 k34 k56 K46 K4 K6 k3 k5 HZ4 HTA HS1 M6 HM6 DX
    go_upto_region 12 with (first | (go_at_call 10;refine C1.mono ?_;rintro e w11 ⟨rfl,k11⟩))
    obtain ⟨a0', a1', a2', a3'⟩:=HAA.out w11 k11
    have C2' := C2.out w11 k11
    clear a0 a1 a2 a3 q0 q1 q2 q3 C1
    go_upto_region 13 with (first | (go_at_call 11;refine C2'.mono ?_;rintro e w12 ⟨⟨u,rfl⟩,k12⟩))
    obtain ⟨⟨⟨y0,y1,y2,y3⟩,y4,y5,y6,y7⟩,HY⟩:=AFT.out w11 w12 k11 k12
    have C3:=csame_any 2001 w12 _ _ (bldT L R z) _ _ HY.out.1 HY.out.2.1 (HSM.out z)
    have C4:Hid (∀ ww,Same0 w12 ww→Calls Tryz.prog 12 #[ev,.slice xo xn xc] ww fun e w' => e=.returned (.bool true)∧Same0 ww w'):=fun ww hk=>same_flt (FltAt.same hk HY.out.2.2.2.1) (HY.out.2.2.1.same hk) HEL.out
    have C5:Hid (∀ ww,Same0 w12 ww→Calls Tryz.prog 12 #[fv,.slice xo xn xc] ww fun e w' => e=.returned (.bool true)∧Same0 ww w'):=fun ww hk=>same_flt (FltAt.same hk HY.out.2.2.2.2.1) (HY.out.2.2.1.same hk) HEL.out
    have HK:Hid (Same0 w2 w12):=HY.out.2.2.2.2.2
    clear a0' a1' a2' a3' C2 C2' HAA HVC AFT HY k11 k12
    go_upto_region 14 with (first | (go_at_call 10;refine C3.mono ?_;rintro e w13 ⟨rfl,k13⟩))
    have C4' := C4.out w13 k13
    clear y0 y1 y2 y3 y4 y5 y6 y7 C3
    go_upto_region 15 with (first | (go_at_call 12;refine C4'.mono ?_;rintro e w14 ⟨rfl,k14⟩))
    have C5' := C5.out w14 (k13.trans' k14)
    have hzz:IntKind.i64.wrap (z+1)=z+1:=iwrap (by omega) (by omega)
    clear C4 C4' C5
    go_wp2_with (first | (go_at_call 12;refine C5'.mono ?_;rintro e w15 ⟨rfl,k15⟩))
    go_roundw
    case rel=>exact ⟨z+1,by omega,by omega,by go_num,HK.out.trans' ((k13.trans' k14).trans' k15)⟩
    case measure=>simp [intOf];omega
  ·go_wp2_with fail
   go_ret
   exact ⟨rfl,(K2.trans' hw).below⟩
end Go.Proofs.YtoajbpmgoklflaaGreat
