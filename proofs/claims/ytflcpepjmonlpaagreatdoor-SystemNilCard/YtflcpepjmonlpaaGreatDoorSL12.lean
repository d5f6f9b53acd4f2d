import Derived.Test.YtflcpepjmonlpaaGreatDoorSL11
import Derived.Test.YtflcpepjmonlpaaGreatDoorSL10
import Derived.Test.YtflcpepjmonlpaaGreatDoorSL05
import Derived.Test.YtflcpepjmonlpaaGreatDoorSL06
import Derived.Test.YtflcpepjmonlpaaGreatDoorSL03
import Derived.Test.YtflcpepjmonlpaaGreatDoorSL04
import Derived.Deep.RegionLaw
import Derived.Deep.AppendLies
import Derived.Deep.LoopGhost
import Derived.Deep.CutRange
import Derived.BigRegion
import Derived.Deep.RegionHeld3
namespace Go.Proofs.YtflcpepjmonlpaaGreatDoor
set_option maxRecDepth 100000
set_option linter.unusedVariables false
open Go.RowKit
attribute [local go_sem ↓] Go.wp_at_zero Go.wp_at_succ
abbrev zeroC:Value:=.agg #[.int .i64 0,.int .i64 0,.slice none 0 0,.slice none 0 0]
def treeF (L:List Sym) (R:List Ru) (s:Nat):Except Int (Tr 2001):=growF L 2001 (rootP L s) (rootR L R s)
def BldPost (L:List Sym) (R:List Ru) (n:Int) (w:World) (e:Ending) (w' : World):Prop:=
 Same0 w w' ∧ if defB L n=true then
  (match treeF L R n.toNat with
  | .ok t=>∃ v,e=.returned (.tuple #[v,.nilIface])∧CsB (fun b=>w.heap.size≤b) w' 2001 v t
  | .error z=>∃ v,e=.returned (.tuple #[zeroC,v])∧FltAt w' [(81,n),(82,z)] v)
 else ∃ v,e=.returned (.tuple #[zeroC,v])∧FltAt w' [(80,0)] v
theorem ptr_nil (b:Nat) (w:World):(binOp .eql 43 (.pointer (some ⟨b,0,none⟩)) (.pointer none)).run Tryz.prog w=.ok (.bool false) w:=by kernel_rfl
theorem kidsN_err {α:Type} {has:Nat→Bool} {g:Nat→Except Int α} {z:Int}:∀ {k:Nat},kidsN has g k=.error z→∃ j,g j=.error z
 | 0,h=>by cases h
 | k+1,h=>by
  rw [kidsN] at h
  cases hk:kidsN has g k with
  | error e=>rw [hk] at h;cases h;exact kidsN_err hk
  | ok l=>
   rw [hk] at h
   simp only at h
   split at h
   ·cases hg:g k with
    | error e=>rw [hg] at h;cases h;exact ⟨k,hg⟩
    | ok t=>rw [hg] at h;cases h
   ·cases h
theorem growF_err {L:List Sym} {z:Int}:∀ {n:Nat} {P:List (List Int)} {R:List Rw},(∀ x∈R,0≤x.1)→growF L n P R=.error z→0≤z
 | 0,P,R,hR,h=>by rw [growF] at h;cases h;omega
 | n+1,P,R,hR,h=>by
  have hh:¬ R.length=0→0≤(R.headD (0,[],[])).1:=fun h0=>by
   cases R with
   | nil=>simp at h0
   | cons x r=>exact hR x (List.mem_cons_self ..)
  by_cases h0:R.length=0
  ·rw [growF_zero h0] at h;cases h
  ·cases hp:partN R P.length with
   | some c=>
    rw [growF_branch h0 hp] at h
    unfold BrF at h
    cases hk:KidsF L n P R c L.length with
    | ok l=>rw [hk] at h;cases h
    | error e=>
     rw [hk] at h
     cases h
     obtain ⟨j,hj⟩:=kidsN_err hk
     refine growF_err (fun x hx=>?_) hj
     obtain ⟨y,hy,rfl⟩:=List.mem_map.1 hx
     exact hR y (havR_mem hy).1
   | none=>
    by_cases h1:R.length=1
    ·rw [growF_leaf h1 hp] at h;cases h
    ·rw [growF_fork h0 h1 hp] at h;cases h;exact hh h0
set_option maxHeartbeats 16000000 in
theorem build_any {w:World} {b bs:Nat} {L:List Sym} {R:List Ru} {lv:Value} {vs:List Value} (h:StAt w b bs L R lv vs) (n:Int) :
  Calls Tryz.prog 74 #[.pointer (some ⟨b,0,none⟩),.int .i64 n] w (BldPost L R n w):=by
 have hpn:=ptr_nil
 have hle:=h.le
 have hok:=h.ok
 obtain ⟨W1,hW1⟩:∃ W1,W1=((w.alloc (.cells #[.int .i64 n] 3)).alloc zeroCs).alloc (.cells #[.nilIface] 46):=⟨_,rfl⟩
 have KW:Same0 w W1:=by rw [hW1];exact (((Kept.refl _ w).alloc _).alloc _).alloc _
 have ez:W1.heap.size=w.heap.size+1+1+1:=by rw [hW1];simp
 have BK:Hid (∀ ww,Same0 W1 ww→ww.heap[w.heap.size]? = some (.cells #[.int .i64 n] 3 (0,0))∧ww.heap[w.heap.size+1]? = some (.cells #[.int .i64 0,.int .i64 0,.slice none 0 0,.slice none 0 0] 63 (0,0))∧ww.heap[w.heap.size+1+1]? = some (.cells #[.nilIface] 46 (0,0))):=fun ww hk=>by
  have k1:Same0 (w.alloc (.cells #[.int .i64 n] 3)) W1:=by rw [hW1];exact ((Kept.refl _ _).alloc _).alloc _
  have k2:Same0 ((w.alloc (.cells #[.int .i64 n] 3)).alloc zeroCs) W1:=by rw [hW1];exact (Kept.refl _ _).alloc _
  have h3:=heap_al_al (w.alloc (.cells #[.int .i64 n] 3)) zeroCs (.cells #[.nilIface] 46)
  rw [World.size_alloc] at h3
  exact ⟨hk.at0 (k1.at0 (heap_alloc_new w _)),hk.at0 (k2.at0 (heap_al_al _ _ _)),hk.at0 (by rw [hW1];exact h3)⟩
 have RC:Hid (∀ ww,Same0 W1 ww→ww.cell? ⟨w.heap.size,0,none⟩=some (.int .i64 n)∧(ww.cell? ⟨w.heap.size+1,0,none⟩=some (.int .i64 0)∧ww.cell? ⟨w.heap.size+1,1,none⟩=some (.int .i64 0)∧ww.cell? ⟨w.heap.size+1,2,none⟩=some (.slice none 0 0)∧ww.cell? ⟨w.heap.size+1,3,none⟩=some (.slice none 0 0))∧(ww.frozen? ⟨w.heap.size+1,0,none⟩=false∧ww.frozen? ⟨w.heap.size+1,1,none⟩=false∧ww.frozen? ⟨w.heap.size+1,2,none⟩=false∧ww.frozen? ⟨w.heap.size+1,3,none⟩=false)∧ww.cell? ⟨w.heap.size+1+1,0,none⟩=some .nilIface∧ww.frozen? ⟨w.heap.size+1+1,0,none⟩=false):=fun ww hk=>by
  obtain ⟨h1,h2,h3⟩:=BK.out ww hk
  exact ⟨cellAt h1 0,⟨cellAt h2 0,cellAt h2 1,cellAt h2 2,cellAt h2 3⟩,⟨frozenAt h2 0,frozenAt h2 1,frozenAt h2 2,frozenAt h2 3⟩,cellAt h3 0,frozenAt h3 0⟩
 have CS:Hid (∀ ww,Same0 w ww→Calls Tryz.prog 69 #[.pointer (some ⟨b,0,none⟩)] ww fun e w' => ∃ bt,e=.returned (.pointer (some ⟨bt,0,none⟩))∧Hid (Sg w'.heap.size w' bt L)∧Same0 ww w'):=fun ww hk=>by
  refine (ssig_any (h.same hk)).mono ?_
  rintro e w' ⟨bt,rfl,hb,sv,mr,h1,h2,h3⟩
  exact ⟨bt,rfl,⟨⟨sv,mr,h1,fun k hk=>sig_foot_lt h1 k hk⟩,h.sig.2⟩,h3⟩
 have HST:Hid (∀ ww,Same0 w ww→StAt ww b bs L R lv vs):=fun ww hk=>h.same hk
 have PUT:Hid (∀ ww x0 x1 x2 x3 y,Same0 W1 ww→((((((ww.setCell ⟨w.heap.size+1,0,none⟩ x0).setCell ⟨w.heap.size+1,1,none⟩ x1).setCell ⟨w.heap.size+1,2,none⟩ x2).setCell ⟨w.heap.size+1,3,none⟩ x3).setCell ⟨w.heap.size+1+1,0,none⟩ y)).cell? ⟨w.heap.size+1,0,none⟩=some x0∧((((((ww.setCell ⟨w.heap.size+1,0,none⟩ x0).setCell ⟨w.heap.size+1,1,none⟩ x1).setCell ⟨w.heap.size+1,2,none⟩ x2).setCell ⟨w.heap.size+1,3,none⟩ x3).setCell ⟨w.heap.size+1+1,0,none⟩ y)).cell? ⟨w.heap.size+1,1,none⟩=some x1∧((((((ww.setCell ⟨w.heap.size+1,0,none⟩ x0).setCell ⟨w.heap.size+1,1,none⟩ x1).setCell ⟨w.heap.size+1,2,none⟩ x2).setCell ⟨w.heap.size+1,3,none⟩ x3).setCell ⟨w.heap.size+1+1,0,none⟩ y)).cell? ⟨w.heap.size+1,2,none⟩=some x2∧((((((ww.setCell ⟨w.heap.size+1,0,none⟩ x0).setCell ⟨w.heap.size+1,1,none⟩ x1).setCell ⟨w.heap.size+1,2,none⟩ x2).setCell ⟨w.heap.size+1,3,none⟩ x3).setCell ⟨w.heap.size+1+1,0,none⟩ y)).cell? ⟨w.heap.size+1,3,none⟩=some x3∧((((((ww.setCell ⟨w.heap.size+1,0,none⟩ x0).setCell ⟨w.heap.size+1,1,none⟩ x1).setCell ⟨w.heap.size+1,2,none⟩ x2).setCell ⟨w.heap.size+1,3,none⟩ x3).setCell ⟨w.heap.size+1+1,0,none⟩ y)).cell? ⟨w.heap.size+1+1,0,none⟩=some y∧Kept (fun q=>q=w.heap.size+1∨q=w.heap.size+1+1) ww ((((((ww.setCell ⟨w.heap.size+1,0,none⟩ x0).setCell ⟨w.heap.size+1,1,none⟩ x1).setCell ⟨w.heap.size+1,2,none⟩ x2).setCell ⟨w.heap.size+1,3,none⟩ x3).setCell ⟨w.heap.size+1+1,0,none⟩ y))∧Same0 w ((((((ww.setCell ⟨w.heap.size+1,0,none⟩ x0).setCell ⟨w.heap.size+1,1,none⟩ x1).setCell ⟨w.heap.size+1,2,none⟩ x2).setCell ⟨w.heap.size+1,3,none⟩ x3).setCell ⟨w.heap.size+1+1,0,none⟩ y))):=by
  intro ww x0 x1 x2 x3 y hk
  obtain ⟨h1,h2,h3⟩:=BK.out ww hk
  have s3:=setAt (setAt (setAt (setAt h2 0 x0) 1 x1) 2 x2) 3 x3
  have k1:=Kept.setCell (p:=⟨w.heap.size+1,0,none⟩) (Kept.refl (fun q=>q=w.heap.size+1) ww) (fun _=>rfl) x0
  have k2:=Kept.setCell (p:=⟨w.heap.size+1,1,none⟩) k1 (fun _=>rfl) x1
  have k3:=Kept.setCell (p:=⟨w.heap.size+1,2,none⟩) k2 (fun _=>rfl) x2
  have k4:=Kept.setCell (p:=⟨w.heap.size+1,3,none⟩) k3 (fun _=>rfl) x3
  have h3' := k4.at h3 (fun e=>by omega)
  have s4:=setAt h3' 0 y
  have k5:=Kept.setCell (p:=⟨w.heap.size+1+1,0,none⟩) (Kept.refl (fun q=>q=w.heap.size+1+1) ((((ww.setCell ⟨w.heap.size+1,0,none⟩ x0).setCell ⟨w.heap.size+1,1,none⟩ x1).setCell ⟨w.heap.size+1,2,none⟩ x2).setCell ⟨w.heap.size+1,3,none⟩ x3)) (fun _=>rfl) y
  have s3' := k5.at s3 (fun e=>by omega)
  have kk:Kept (fun q=>q=w.heap.size+1∨q=w.heap.size+1+1) ww ((((((ww.setCell ⟨w.heap.size+1,0,none⟩ x0).setCell ⟨w.heap.size+1,1,none⟩ x1).setCell ⟨w.heap.size+1,2,none⟩ x2).setCell ⟨w.heap.size+1,3,none⟩ x3).setCell ⟨w.heap.size+1+1,0,none⟩ y)):=Kept.trans (k4.mono (fun _ _ e=>.inl e)) k5 (fun _ _ e=>.inr e)
  exact ⟨cellAt s3' 0,cellAt s3' 1,cellAt s3' 2,cellAt s3' 3,cellAt s4 0,kk,Kept.trans (KW.trans' hk) kk (fun i hi e=>by omega)⟩
 clear h
 have C1:=CS.out W1 KW
 cases hd:defB L n with
 | false=>
  have FIN:Hid (∀ ww v,Same0 w ww→FltAt ww [(80,0)] v→BldPost L R n w (.returned (.tuple #[zeroC,v])) ww):=fun ww v hk hf=>⟨hk,by rw [hd];exact ⟨v,rfl,hf⟩⟩
  have CD:Hid (∀ ww bt,Same0 W1 ww→Sg ww.heap.size ww bt L→Calls Tryz.prog 130 #[.pointer (some ⟨bt,0,none⟩),.int .i64 n] ww fun e w' => e=.returned (.bool false)∧Same0 ww w'):=fun ww bt hk hs=>by rw [← hd];exact tdef_any hs n
  clear hd
  go_enter Tryz.func74,Tryz.ntmps74
  go_upto_region 1 with fail
  rw [← hW1]
  clear hW1
  go_upto_region 4 with (first | (go_at_call 69;refine C1.mono ?_;rintro e w2 ⟨bt,rfl,hs2,k2⟩))
  obtain ⟨r0,_⟩:=RC.out w2 k2
  have C2:=CD.out w2 bt k2 hs2.out
  go_upto_region 5 with (first | (go_at_call 130;refine C2.mono ?_;rintro e w3 ⟨rfl,k3⟩))
  have k13:=k2.trans' k3
  have ka:Same0 W1 (w3.alloc (.cells #[.int .i64 80,.int .i64 0,.nilIface] 143)):=Kept.alloc k13 _
  obtain ⟨_,⟨q0,q1,q2,q3⟩,⟨f0,f1,f2,f3⟩,q4,f4⟩:=RC.out _ ka
  have PP:=PUT.out _ (.int .i64 0) (.int .i64 0) (.slice none 0 0) (.slice none 0 0) (.iface 141 (.pointer (some ⟨w3.heap.size,0,none⟩))) ka
  have PH:Hid _:=PP
  clear PP
  go_wp2_with fail
  obtain ⟨g0,g1,g2,g3,g4,kk,ks⟩:=PH.out
  have hf:=kk.at (heap_alloc_new w3 _) (fun e=>by have:=k13.size;omega)
  exact bodyPost_ret (v:=.tuple #[zeroC,.iface 141 (.pointer (some ⟨w3.heap.size,0,none⟩))]) (by simp [results,Tryz.results74,go_sem,g0,g1,g2,g3,g4]) rfl (FIN.out _ _ ks (.inr ⟨by omega,_,_,rfl,hf,rfl⟩))
 | true=>
  obtain ⟨s,hs,rfl⟩:∃ s:Nat,s<L.length∧n=(s:Int):=by
   by_cases hx:n<0∨(L.length:Int)≤n
   ·rw [defB_no hx] at hd;cases hd
   ·exact ⟨n.toNat,by omega,by omega⟩
  have CD:Hid (∀ ww bt,Same0 W1 ww→Sg ww.heap.size ww bt L→Calls Tryz.prog 130 #[.pointer (some ⟨bt,0,none⟩),.int .i64 (s:Int)] ww fun e w' => e=.returned (.bool true)∧Same0 ww w'):=fun ww bt hk hs=>by rw [← hd];exact tdef_any hs _
  have CR:Hid (∀ ww bt,Same0 W1 ww→Sg ww.heap.size ww bt L→Calls Tryz.prog 133 #[.pointer (some ⟨bt,0,none⟩),.pointer (some ⟨b,0,none⟩),.int .i64 (s:Int)] ww fun e w' => ∃ po pc ro rc,e=.returned (.agg #[.pointer (some ⟨bt,0,none⟩),.slice po (rootP L s).length pc,.slice ro (rootR L R s).length rc])∧Hid (NdIn w' L 2001 bt po pc (rootP L s) ro (rootR L R s))∧Same0 ww w'):=fun ww bt hk hg=>rootOf_any hg (HST.out ww (KW.trans' hk)) hs
  have CG:Hid (∀ ww bt po pc ro rc,NdIn ww L 2001 bt po pc (rootP L s) ro (rootR L R s)→Calls Tryz.prog 134 #[.agg #[.pointer (some ⟨bt,0,none⟩),.slice po (rootP L s).length pc,.slice ro (rootR L R s).length rc]] ww (TreeOut ww (treeF L R s))):=fun ww bt po pc ro rc hi=>tgrow_any L 2001 ww bt po pc _ ro rc _ hi
  cases ht:treeF L R s with
  | ok t=>
   rw [ht] at CG
   have CG2:Hid (∀ ww bt po pc ro rc,NdIn ww L 2001 bt po pc (rootP L s) ro (rootR L R s)→Calls Tryz.prog 134 #[.agg #[.pointer (some ⟨bt,0,none⟩),.slice po (rootP L s).length pc,.slice ro (rootR L R s).length rc]] ww fun e w' => ∃ tk tr tpo tpl tpc tko tkl tkc,e=.returned (.agg #[.int .i64 tk,.int .i64 tr,.slice tpo tpl tpc,.slice tko tkl tkc])∧Hid (CsB (fun b=>ww.heap.size≤b) w' 2001 (.agg #[.int .i64 tk,.int .i64 tr,.slice tpo tpl tpc,.slice tko tkl tkc]) t)∧Same0 ww w'):=fun ww bt po pc ro rc hi=>by
    refine (CG.out ww bt po pc ro rc hi).mono ?_
    rintro e w' ⟨v,rfl,h1,h2⟩
    obtain ⟨tk,tr,tpo,tpl,tpc,tko,tkl,tkc,rfl⟩:=h1.shape
    exact ⟨tk,tr,tpo,tpl,tpc,tko,tkl,tkc,rfl,h1,h2⟩
   have FIN:Hid (∀ ww v,Same0 w ww→CsB (fun b=>w.heap.size≤b) ww 2001 v t→BldPost L R (s:Int) w (.returned (.tuple #[v,.nilIface])) ww):=fun ww v hk hf=>⟨hk,by rw [if_pos hd];simp only [Int.toNat_natCast];rw [ht];exact ⟨v,rfl,hf⟩⟩
   clear hd CG ht
   go_enter_defers Tryz.func74,Tryz.ntmps74
   go_upto_region 1 with fail
   rw [← hW1]
   clear hW1
   go_upto_region 4 with (first | (go_at_call 69;refine C1.mono ?_;rintro e w2 ⟨bt,rfl,hs2,k2⟩))
   obtain ⟨r0,_⟩:=RC.out w2 k2
   have C2:=CD.out w2 bt k2 hs2.out
   go_upto_region 7 with (first | (go_at_call 130;refine C2.mono ?_;rintro e w3 ⟨rfl,k3⟩))
   have k13:=k2.trans' k3
   obtain ⟨r3,_⟩:=RC.out w3 k13
   have C3:=CR.out w3 bt k13 (sg_up (hs2.out.same k3) k3.size)
   go_wp2_with (first
    | (go_at_call 133;refine C3.mono ?_;rintro e w4 ⟨po,pc,ro,rc,rfl,hi,k4⟩;have C4:=CG2.out w4 bt po pc ro rc hi.out)
    | (go_at_call 134;refine C4.mono ?_;rintro e w5 ⟨tk,tr,tpo,tpl,tpc,tko,tkl,tkc,rfl,hcs,k5⟩;have k15:=(k13.trans' k4).trans' k5;obtain ⟨_,⟨q0,q1,q2,q3⟩,⟨f0,f1,f2,f3⟩,q4,f4⟩:=RC.out _ k15))
   have PH:Hid _:=PUT.out w5 (.int .i64 tk) (.int .i64 tr) (.slice tpo tpl tpc) (.slice tko tkl tkc) .nilIface k15
   refine leaves_cons (f:=131) (args:=#[.pointer (some ⟨w.heap.size,0,none⟩),.pointer (some ⟨w.heap.size+1+1,0,none⟩)]) (by simp) (by simp [go_sem]) ?_
   refine (catch_none _).mono ?_
   rintro e u' w'' ⟨rfl,rfl,rfl⟩
   obtain ⟨g0,g1,g2,g3,g4,kk,ks⟩:=PH.out
   have z4:=(k13.trans' k4).size
   simp [Leaves,settle,results,Tryz.results74,go_sem,g0,g1,g2,g3,g4]
   exact FIN.out _ _ ks (CsB.mono (fun b hb q=>by have:w4.heap.size≤b:=q;omega) (CsB.kept kk (fun b q e=>by have:w4.heap.size≤b:=q;omega) hcs.out))
  | error z=>
   rw [ht] at CG
   have hz:0≤z:=by
    refine growF_err (fun x hx=>?_) ht
    obtain ⟨y,hy,rfl⟩:=List.mem_map.1 hx
    obtain ⟨j,hj,rfl,_⟩:=rows_fact hok hy
    show (0:Int)≤(j:Int)
    omega
   have CG2:Hid (∀ ww bt po pc ro rc,NdIn ww L 2001 bt po pc (rootP L s) ro (rootR L R s)→Calls Tryz.prog 134 #[.agg #[.pointer (some ⟨bt,0,none⟩),.slice po (rootP L s).length pc,.slice ro (rootR L R s).length rc]] ww fun e w' => ∃ k,e=.panicked [{ v:=.iface 141 (.pointer (some ⟨k,0,none⟩)),recovered:=false }]∧Hid (w'.heap[k]? = some (.cells #[.int .i64 82,.int .i64 z,.nilIface] 143 (0,0)))∧Same0 ww w'):=fun ww bt po pc ro rc hi=>by
    refine (CG.out ww bt po pc ro rc hi).mono ?_
    rintro e w' ⟨⟨k,h1,h2⟩,h3⟩
    exact ⟨k,h1,h2,h3⟩
   have FIN:Hid (∀ ww v,Same0 w ww→FltAt ww [(81,(s:Int)),(82,z)] v→BldPost L R (s:Int) w (.returned (.tuple #[zeroC,v])) ww):=fun ww v hk hf=>⟨hk,by rw [if_pos hd];simp only [Int.toNat_natCast];rw [ht];exact ⟨v,rfl,hf⟩⟩
   clear hd CG ht
   go_enter_defers Tryz.func74,Tryz.ntmps74
   go_upto_region 1 with fail
   rw [← hW1]
   clear hW1
   go_upto_region 4 with (first | (go_at_call 69;refine C1.mono ?_;rintro e w2 ⟨bt,rfl,hs2,k2⟩))
   obtain ⟨r0,_⟩:=RC.out w2 k2
   have C2:=CD.out w2 bt k2 hs2.out
   go_upto_region 7 with (first | (go_at_call 130;refine C2.mono ?_;rintro e w3 ⟨rfl,k3⟩))
   have k13:=k2.trans' k3
   obtain ⟨r3,_⟩:=RC.out w3 k13
   have C3:=CR.out w3 bt k13 (sg_up (hs2.out.same k3) k3.size)
   go_wp2_with (first
    | (go_at_call 133;refine C3.mono ?_;rintro e w4 ⟨po,pc,ro,rc,rfl,hi,k4⟩;have C4:=CG2.out w4 bt po pc ro rc hi.out)
    | (go_at_call 134;refine C4.mono ?_;rintro e w5 ⟨k,rfl,hk,k5⟩))
   have k15:=(k13.trans' k4).trans' k5
   obtain ⟨x0,⟨q0,q1,q2,q3⟩,⟨f0,f1,f2,f3⟩,q4,f4⟩:=RC.out _ k15
   obtain ⟨b1,b2,b3⟩:=BK.out w5 k15
   refine leaves_cons (f:=131) (args:=#[.pointer (some ⟨w.heap.size,0,none⟩),.pointer (some ⟨w.heap.size+1+1,0,none⟩)]) (by simp) (by simp [go_sem]) ?_
   refine (catch_fork k w5 x0 b3 (by omega)).mono ?_
   rintro e u' w6 ⟨rfl,rfl,q,h1,h2,k6⟩
   have b2' := k6.at b2 (fun e=>by omega)
   have g0:=cellAt b2' 0
   have g1:=cellAt b2' 1
   have g2:=cellAt b2' 2
   have g3:=cellAt b2' 3
   have g4:=cellAt h2 0
   simp only [List.getElem?_toArray,List.getElem?_cons_zero,List.getElem?_cons_succ] at g0 g1 g2 g3 g4
   have hk6:=k6.at hk.out (fun e=>by subst e;have:=hk.out;rw [b3] at this;cases this)
   have ks:Same0 w w6:=Kept.trans (KW.trans' k15) k6 (fun i hi e=>by omega)
   simp [Leaves,settle,results,Tryz.results74,go_sem,g0,g1,g2,g3,g4]
   exact FIN.out _ _ ks (.inr ⟨by omega,q,_,rfl,h1,.inr ⟨by omega,k,_,rfl,hk6,rfl⟩⟩)
end Go.Proofs.YtflcpepjmonlpaaGreatDoor
namespace Go.Proofs.YtflcpepjmonlpaaGreatDoor
set_option maxRecDepth 100000
set_option linter.unusedVariables false
structure GL (n:Nat) (R:List Rw) (t:Tr n):Prop where
 len:(rulesF n t).length=R.length
 mem:∀ x∈R,x.1∈rulesF n t
 fl:(szT n t).2.2=if R.length=0 then 1 else 0
 br:(szT n t).2.1≤n * R.length
 lv:(szT n t).1=R.length
 b0:(szT n t).2.1=0→R.length≤1
 sm:SmK n t
def cntR (R:List Rw) (c:Nat) (k:Nat):Nat:=(R.filter (fun x=>decide (numR x c<(k:Int)))).length
theorem cntR_succ {R:List Rw} {c k:Nat} (h:∀ x∈R,0≤numR x c):cntR R c (k+1)=cntR R c k+(havR R c (k:Int)).length:=by
 unfold cntR havR
 induction R with
 | nil=>rfl
 | cons x r ih=>
  have h0:=ih (fun y hy=>h y (List.mem_cons_of_mem _ hy))
  have hx:=h x (List.mem_cons_self ..)
  by_cases h1:numR x c<(k:Int)
  ·have h2:numR x c<((k+1:Nat):Int):=by omega
   have h3:¬ numR x c=(k:Int):=by omega
   simp only [List.filter_cons,h1,h2,h3,decide_true,decide_false,if_true,Bool.false_eq_true,if_false,List.length_cons]
   omega
  ·by_cases h3:numR x c=(k:Int)
   ·have h2:numR x c<((k+1:Nat):Int):=by omega
    simp only [List.filter_cons,h3,decide_true,if_true,List.length_cons]
    have h4:((k:Int)<((k+1:Nat):Int)):=by omega
    simp only [h4,decide_true,if_true,List.length_cons,Int.lt_irrefl,decide_false,Bool.false_eq_true,if_false]
    omega
   ·have h2:¬ numR x c<((k+1:Nat):Int):=by omega
    simp only [List.filter_cons,h1,h2,h3,decide_false,Bool.false_eq_true,if_false]
    exact h0
structure KL (n:Nat) (R:List Rw) (c k:Nat) (l:List (Int × Tr n)):Prop where
 len:(l.flatMap (fun x=>rulesF n x.2)).length=cntR R c k
 mem:∀ x∈R,numR x c<(k:Int)→x.1∈l.flatMap (fun x=>rulesF n x.2)
 fl:(sum3 (fun x=>szT n x.2) l).2.2=0
 br:(sum3 (fun x=>szT n x.2) l).2.1≤n * cntR R c k
 lv:(sum3 (fun x=>szT n x.2) l).1=cntR R c k
 le:l.length≤k
 sm:∀ i (h:i<l.length),SmK n l[i].2
theorem kids_KL {L:List Sym} {n:Nat} {P:List (List Int)} {R:List Rw} {c:Nat} (h0:∀ x∈R,0≤numR x c) (IH:∀ s,s<L.length→havR R c (s:Int)≠[]→∀ t,growF L n (kidP L P c s) ((havR R c (s:Int)).map (kidX L c))=.ok t→GL n ((havR R c (s:Int)).map (kidX L c)) t):∀ k,k≤L.length→∀ l,KidsF L n P R c k=.ok l→KL n R c k l
 | 0,_,l,h=>by
  cases h
  have e:cntR R c 0=0:=by
   unfold cntR
   rw [List.length_eq_zero_iff,List.filter_eq_nil_iff]
   intro x hx
   have:=h0 x hx
   simp;omega
  exact ⟨by rw [e];rfl,fun x hx hn=>by have:=h0 x hx;omega,rfl,by simp [sum3],by rw [e];rfl,Nat.le_refl _,fun i hi=>absurd hi (by simp)⟩
 | k+1,hk,l,h=>by
  have hsucc:=cntR_succ (c:=c) (k:=k) h0
  cases hm:KidsF L n P R c k with
  | error e=>rw [KidsF_err hm (Nat.le_succ k)] at h;cases h
  | ok m=>
   have K:=kids_KL h0 IH k (by omega) m hm
   have hm' := hm
   unfold KidsF at hm' h
   rw [kidsN,hm'] at h
   simp only at h
   by_cases hh:0<(havR R c (k:Int)).length
   ·simp only [hh,decide_true,if_true] at h
    cases hg:growF L n (kidP L P c k) ((havR R c (k:Int)).map (kidX L c)) with
    | error e=>rw [hg] at h;cases h
    | ok t=>
     rw [hg] at h
     cases h
     have G:=IH k (by omega) (fun e=>by rw [e] at hh;simp at hh) t hg
     have hGl:=G.len
     rw [List.length_map] at hGl
     have hGv:=G.lv
     rw [List.length_map] at hGv
     have hGb:=G.br
     rw [List.length_map] at hGb
     have hGf:=G.fl
     rw [List.length_map,if_neg (by omega)] at hGf
     have efl:(m ++ [((k:Int),t)]).flatMap (fun x=>rulesF n x.2)=m.flatMap (fun x=>rulesF n x.2)++rulesF n t:=by simp
     have es:sum3 (fun x:Int × Tr n=>szT n x.2) (m ++ [((k:Int),t)])=add3 (sum3 (fun x=>szT n x.2) m) (szT n t):=by rw [sum3_append];simp [sum3,add3]
     refine ⟨?_,fun x hx hn=>?_,?_,?_,?_,?_,fun i hi=>?_⟩
     ·rw [efl,List.length_append,K.len,hGl,hsucc]
     ·rw [efl]
      by_cases hlt:numR x c<(k:Int)
      ·exact List.mem_append_left _ (K.mem x hx hlt)
      ·refine List.mem_append_right _ ?_
       have hx2:x∈havR R c (k:Int):=by
        unfold havR
        rw [List.mem_filter]
        exact ⟨hx,by simp;omega⟩
       exact G.mem (kidX L c x) (List.mem_map.2 ⟨x,hx2,rfl⟩)
     ·rw [es];simp only [add3];rw [K.fl,hGf]
     ·rw [es];simp only [add3];have:=K.br;rw [hsucc,Nat.mul_add];omega
     ·rw [es];simp only [add3];rw [K.lv,hGv,hsucc]
     ·have:=K.le;simp;omega
     ·by_cases hi2:i<m.length
      ·rw [List.getElem_append_left hi2];exact K.sm i hi2
      ·obtain rfl:i=m.length:=by simp at hi;omega
       simpa using G.sm
   ·simp only [hh,decide_false,Bool.false_eq_true,if_false] at h
    cases h
    have hz:(havR R c (k:Int)).length=0:=by omega
    rw [hz,Nat.add_zero] at hsucc
    refine ⟨by rw [hsucc];exact K.len,fun x hx hn=>?_,K.fl,by rw [hsucc];exact K.br,by rw [hsucc];exact K.lv,by have:=K.le;omega,K.sm⟩
    refine K.mem x hx ?_
    by_cases e:numR x c=(k:Int)
    ·have hx2:x∈havR R c (k:Int):=by
      unfold havR
      rw [List.mem_filter]
      exact ⟨hx,by simp [e]⟩
     rw [List.eq_nil_of_length_eq_zero hz] at hx2
     simp at hx2
    ·omega
theorem grow_GL {L:List Sym} (hA:Ars L) (hL:L.length≤64):∀ (n:Nat) (P:List (List Int)) (R:List Rw) (t:Tr n),NdOk L n P R→growF L n P R=.ok t→GL n R t
 | 0,P,R,t,h,_=>absurd h.pos (Nat.lt_irrefl 0)
 | n+1,P,R,t,h,hg=>by
  by_cases h0:R.length=0
  ·rw [growF_zero h0] at hg
   cases hg
   refine ⟨by simp [rulesF,h0],fun x hx=>?_,by simp [szT,kind3,add3,h0],by simp [szT,kind3,add3],by simp [szT,kind3,add3,h0],fun _=>by omega,by simp,fun i hi=>absurd hi (by simp)⟩
   rw [List.eq_nil_of_length_eq_zero h0] at hx;simp at hx
  ·cases hp:partN R P.length with
   | none=>
    by_cases h1:R.length=1
    ·rw [growF_leaf h1 hp] at hg
     cases hg
     refine ⟨by simp [rulesF,h1],fun x hx=>?_,by simp [szT,kind3,add3,h0],by simp [szT,kind3,add3],by simp [szT,kind3,add3,h1],fun _=>by omega,by simp,fun i hi=>absurd hi (by simp)⟩
     match R,h1 with
     | [y],_=>
      simp at hx
      subst hx
      simp [rulesF]
    ·rw [growF_fork h0 h1 hp] at hg;cases hg
   | some c=>
    rw [growF_branch h0 hp] at hg
    unfold BrF at hg
    cases hk:KidsF L n P R c L.length with
    | error e=>rw [hk] at hg;cases hg
    | ok l=>
     rw [hk] at hg
     cases hg
     obtain ⟨hc,hcon⟩:=partN_some hp
     have hn0:∀ x∈R,0≤numR x c:=fun x hx=>by
      unfold conB at hcon
      have:=List.all_eq_true.1 hcon x hx
      simpa using this
     have hnL:∀ x∈R,numR x c<(L.length:Int):=fun x hx=>by
      obtain ⟨k1,k2,k3,_⟩:=h.ok x hx
      have hc' : c<x.2.2.length:=by omega
      have hp' := k3 _ (List.getElem_mem hc')
      rw [numR_eq hc' hp']
      exact (badE_zero.1 (checkE_zero.1 k1).2.1 _ (List.getElem_mem hp')).1
     have K:=kids_KL hn0 (fun s hs hne t ht=>grow_GL hA hL n _ _ t (h.kid hc hs (arN_le hA _) hne) ht) L.length (Nat.le_refl _) l hk
     have hall:cntR R c L.length=R.length:=by
      unfold cntR
      rw [List.filter_eq_self.2 (fun x hx=>by simpa using hnL x hx)]
     have er:rulesF (n+1) (2,0,P.getD c [],l)=l.flatMap (fun x=>rulesF n x.2):=by simp [rulesF]
     have es:szT (n+1) (2,0,P.getD c [],l)=add3 (0,1,0) (sum3 (fun x=>szT n x.2) l):=by simp [szT,kind3]
     refine ⟨?_,fun x hx=>?_,?_,?_,?_,fun e=>?_,?_,K.sm⟩
     ·rw [er,K.len,hall]
     ·rw [er];exact K.mem x hx (hnL x hx)
     ·rw [es,if_neg h0];simp only [add3];rw [K.fl]
     ·rw [es];simp only [add3];have:=K.br;rw [hall] at this;rw [Nat.add_mul];omega
     ·rw [es];simp only [add3];rw [K.lv,hall];omega
     ·rw [es] at e;simp only [add3] at e;omega
     ·have:=K.le;omega
def K3:(n:Nat)→Tr n→Prop
 | 0,_=>True
 | n+1,(k,r,p,l)=>(k=1∨k=2∨k=3)∧∀ x∈l,K3 n x.2
theorem kids_K3 {L:List Sym} {n:Nat} {P:List (List Int)} {R:List Rw} {c:Nat} (IH:∀ P R t,growF L n P R=.ok t→K3 n t):∀ k l,KidsF L n P R c k=.ok l→∀ x∈l,K3 n x.2
 | 0,l,h=>by cases h;simp
 | k+1,l,h=>by
  unfold KidsF kidsN at h
  cases hk:KidsF L n P R c k with
  | error e=>unfold KidsF at hk;rw [hk] at h;cases h
  | ok m=>
   have hm:=kids_K3 IH k m hk
   unfold KidsF at hk
   rw [hk] at h
   simp only at h
   split at h
   ·split at h
    ·cases h
    ·rename_i t ht
     cases h
     intro x hx
     rcases List.mem_append.1 hx with q | q
     ·exact hm x q
     ·simp only [List.mem_singleton] at q
      rw [q]
      exact IH _ _ _ ht
   ·cases h;exact hm
theorem grow_K3 {L:List Sym}:∀ (n:Nat) (P:List (List Int)) (R:List Rw) (t:Tr n),growF L n P R=.ok t→K3 n t
 | 0,P,R,t,h=>trivial
 | n+1,P,R,t,h=>by
  by_cases h0:R.length=0
  ·rw [growF_zero h0] at h
   cases h
   exact ⟨.inr (.inr rfl),by simp⟩
  ·cases hp:partN R P.length with
   | none=>
    by_cases h1:R.length=1
    ·rw [growF_leaf h1 hp] at h
     cases h
     exact ⟨.inl rfl,by simp⟩
    ·rw [growF_fork h0 h1 hp] at h;cases h
   | some c=>
    rw [growF_branch h0 hp] at h
    unfold BrF at h
    cases hk:KidsF L n P R c L.length with
    | error e=>rw [hk] at h;cases h
    | ok l=>
     rw [hk] at h
     cases h
     exact ⟨.inr (.inl rfl),kids_K3 (grow_K3 n) _ _ hk⟩
def tot3 (a:T3):Nat:=a.1+a.2.1+a.2.2
theorem tot_add (a b:T3):tot3 (add3 a b)=tot3 a+tot3 b:=by simp [tot3,add3];omega
theorem szT_eq {n:Nat} (k r:Int) (p:List Int) (l:List (Int × Tr n)):szT (n+1) (k,r,p,l)=add3 (kind3 k) (if k=2 then sum3 (fun x=>szT n x.2) l else (0,0,0)):=rfl
theorem K3_eq {n:Nat} (k r:Int) (p:List Int) (l:List (Int × Tr n)):K3 (n+1) (k,r,p,l)=((k=1∨k=2∨k=3)∧∀ x∈l,K3 n x.2):=rfl
theorem insN_kids {n:Nat} (h:∀ t:Tr n,K3 n t→insN n t+1≤4 * tot3 (szT n t)):∀ l:List (Int × Tr n),(∀ x∈l,K3 n x.2)→sumN (l.map (fun x=>insN n x.2))+l.length≤4 * tot3 (sum3 (fun x=>szT n x.2) l)
 | [],_=>by simp [sumN,sum3,tot3]
 | x :: r,hx=>by
  have a:=h x.2 (hx x (List.mem_cons_self ..))
  have b:=insN_kids h r (fun y hy=>hx y (List.mem_cons_of_mem _ hy))
  simp only [List.map_cons,sumN,sum3,tot_add,List.length_cons]
  omega
theorem insN_le:∀ (n:Nat) (t:Tr (n+1)),K3 (n+1) t→insN (n+1) t+1≤4 * tot3 (szT (n+1) t)
 | n,(k,r,p,l),h=>by
  rw [K3_eq] at h
  obtain ⟨hk,hl⟩:=h
  rw [insN_eq,szT_eq,tot_add]
  rcases hk with rfl | rfl | rfl
  ·rw [if_neg (by decide),if_neg (by decide)];simp [kind3,tot3]
  ·rw [if_pos rfl,if_pos rfl]
   have e1:tot3 (kind3 2)=1:=rfl
   rw [e1]
   cases n with
   | zero=>
    have:l=[]:=by
     cases l with
     | nil=>rfl
     | cons x r=>exact (x.2:Empty).elim
    subst this
    simp [sumN,sum3,tot3]
   | succ n=>
    have:=insN_kids (insN_le n) l hl
    omega
  ·rw [if_neg (by decide),if_neg (by decide)];simp [kind3,tot3]
theorem tree_small {L:List Sym} (hA:Ars L) (hL:L.length≤64) {R:List Ru} (hle:R.length≤100) (hok:∀ x∈R,checkE L x.1=0∧checkE L x.2=0) {s:Nat} (hs:s<L.length) {t:Tr 2001} (h:treeF L R s=.ok t):insN 2001 t≤1000000:=by
 have hN:=root_ok hA hle hok hs
 have G:GL 2001 (rootR L R s) t:=grow_GL hA hL 2001 _ _ t hN h
 have hR:=hN.le
 have h1:insN 2001 t+1≤4 * tot3 (szT 2001 t):=insN_le 2000 t (grow_K3 2001 _ _ t h)
 have h2:=G.lv
 have h3:=G.br
 have h4:=G.fl
 have h5:(szT 2001 t).2.2≤1:=by rw [h4];split <;> omega
 have h6:2001 * (rootR L R s).length≤2001 * 100:=Nat.mul_le_mul_left _ hR
 simp only [tot3] at h1
 omega
def cmpS (L:List Sym) (R:List Ru):Nat→St9 × List Int
 | 0=>(([],[]),[])
 | k+1=>if defB L (k:Int)=true then (match treeF L R k with | .ok t=>(layS 2001 t (cmpS L R k).1,(cmpS L R k).2 ++ [((cmpS L R k).1.1.length:Int)]) | .error _=>((cmpS L R k).1,(cmpS L R k).2)) else ((cmpS L R k).1,(cmpS L R k).2 ++ [-1])
theorem cmpS_no {L:List Sym} {R:List Ru} {k:Nat} (h:defB L (k:Int)=false):cmpS L R (k+1)=((cmpS L R k).1,(cmpS L R k).2 ++ [-1]):=by rw [cmpS,if_neg (by rw [h];simp)]
theorem cmpS_yes {L:List Sym} {R:List Ru} {k:Nat} (h:defB L (k:Int)=true) {t:Tr 2001} (ht:treeF L R k=.ok t):cmpS L R (k+1)=(layS 2001 t (cmpS L R k).1,(cmpS L R k).2 ++ [((cmpS L R k).1.1.length:Int)]):=by rw [cmpS,if_pos h,ht]
theorem cmpS_small {L:List Sym} (hA:Ars L) (hL:L.length≤64) {R:List Ru} (hle:R.length≤100) (hok:∀ x∈R,checkE L x.1=0∧checkE L x.2=0):∀ k,k≤L.length→(cmpS L R k).1.1.length+(cmpS L R k).1.2.length≤k * 1000000∧(cmpS L R k).2.length≤k
 | 0,_=>by simp [cmpS]
 | k+1,hk=>by
  obtain ⟨a,b⟩:=cmpS_small hA hL hle hok k (by omega)
  cases hd:defB L (k:Int) with
  | false=>
   rw [cmpS_no hd]
   simp only [List.length_append,List.length_cons,List.length_nil]
   omega
  | true=>
   cases ht:treeF L R k with
   | error z=>
    rw [cmpS,if_pos hd,ht]
    simp only
    omega
   | ok t=>
    rw [cmpS_yes hd ht]
    have h1:=tree_small hA hL hle hok (s:=k) (by omega) ht
    have h2:=(layS_len 2001 t (cmpS L R k).1).1
    simp only [List.length_append,List.length_cons,List.length_nil]
    omega
end Go.Proofs.YtflcpepjmonlpaaGreatDoor
namespace Go.Proofs.YtflcpepjmonlpaaGreatDoor
set_option maxRecDepth 100000
set_option linter.unusedVariables false
open Go.RowKit
attribute [local go_sem ↓] Go.wp_at_zero Go.wp_at_succ
theorem kept_at (w:World) (b o:Nat) (u:Value):Kept (fun k=>k=b) w (w.setCell ⟨b,o,none⟩ u):=Kept.setCell (p:=⟨b,o,none⟩) (Kept.refl (fun k=>k=b) w) (fun _=>rfl) u
structure Lent7 (base:Nat) (w:World) (v:Value) (l:List Ru) (k:Nat) (vs:List Value) (f:Nat→Nat):Prop where
 row:w.ownsRow base 102 2 v k vs
 le:k≤l.length
 lo:∀ i,i<k * 2→base≤f i∧f i<w.heap.size
 up:∀ i j,i<j→j<k * 2→f i<f j
 one:∀ i (h:i<l.length),i<k→vs[i * 2]? = some (.slice (some ⟨f (i * 2),0,none⟩) l[i].1.length (l[i].1.length+1))∧Row base w (.slice (some ⟨f (i * 2),0,none⟩) (l[i].1.length+1) (l[i].1.length+1)) (l[i].1 ++ [77])
 two:∀ i (h:i<l.length),i<k→vs[i * 2+1]? = some (.slice (some ⟨f (i * 2+1),0,none⟩) l[i].2.length (l[i].2.length+1))∧Row base w (.slice (some ⟨f (i * 2+1),0,none⟩) (l[i].2.length+1) (l[i].2.length+1)) (l[i].2 ++ [78])
structure Left7 (base:Nat) (w:World) (gv:Nat) (l:List Ru) (k:Nat) (f:Nat→Nat):Prop where
 blk:∃ cur,w.heap[gv]? = some (.cells cur 102 (0,0))∧l.length * 2≤cur.size∧∀ i (h:i<l.length),k≤i→cur[i * 2]? = some (.slice (some ⟨f (i * 2),0,none⟩) l[i].1.length (l[i].1.length+1))∧cur[i * 2+1]? = some (.slice (some ⟨f (i * 2+1),0,none⟩) l[i].2.length (l[i].2.length+1))
 ge:base≤gv∧∀ i,i<l.length * 2→base≤f i
 up:∀ i j,i<j→j<l.length * 2→f i<f j
 one:∀ i (h:i<l.length),k≤i→Row base w (.slice (some ⟨f (i * 2),0,none⟩) (l[i].1.length+1) (l[i].1.length+1)) (l[i].1 ++ [77])
 two:∀ i (h:i<l.length),k≤i→Row base w (.slice (some ⟨f (i * 2+1),0,none⟩) (l[i].2.length+1) (l[i].2.length+1)) (l[i].2 ++ [78])
end Go.Proofs.YtflcpepjmonlpaaGreatDoor
namespace Go.Proofs.YtflcpepjmonlpaaGreatDoor
set_option linter.unusedVariables false
def kidPairs (L:List Sym) (J:List Int) (p q:Nat):List (Nat × Nat):=((kidsL L J p).zip (kidsL L J q)).reverse
def netF (L:List Sym) (J:List Int):Nat→(Int→Int)→List (Nat × Nat)→Option (Option (Int→Int))
 | 0,_,_=>none
 | _+1,ld,[]=>some (some ld)
 | n+1,ld,(y,x) :: r=>
  if ld x=ld y then netF L J n ld r
  else if ld x<0 then netF L J n (un (ld x) (ld y) ld) r
  else if ld y<0 then netF L J n (un (ld y) (ld x) ld) r
  else if at' J (ld x)≠at' J (ld y) then some none
  else netF L J n (un (ld x) (ld y) ld) (kidPairs L J (ld x).toNat (ld y).toNat++r)
structure NOk (L:List Sym) (J:List Int) (res:Option (Int→Int)) (k:Nat) (ld:Int→Int) (ps:List (Nat × Nat)):Prop where
 trs:Trs L J
 ok:LdOk J ld
 pairs:∀ r∈ps,r.1<J.length∧r.2<J.length
 eq:netF L J k ld ps=some res
 len:ps.length+(J.length+1) * roots J ld≤(J.length+1) * J.length+1
end Go.Proofs.YtflcpepjmonlpaaGreatDoor
namespace Go.Proofs.YtflcpepjmonlpaaGreatDoor
set_option maxRecDepth 100000
set_option linter.unusedVariables false
open Go.RowKit
attribute [local go_sem ↓] Go.wp_at_zero Go.wp_at_succ
def ptN (ap:Bool) (N x:Nat):Int:=if x<N then (x:Int) else if ap=true∧(x-N) % 2=1 then -(((x-N) / 2:Nat):Int)-100 else -(((x-N) / 2:Nat):Int)-1
def VNode (ap:Bool) (N x:Nat):Prop:=x<N∨(N≤x∧x<N+198∧(ap=true∨(x-N) % 2=0))
structure NR (ap:Bool) (J:List Int) (up:Nat→Nat) (rep:Nat→Int) (cl:Nat→Nat) (ρ:Nat→Nat) (ld:Int→Int):Prop where
 node:∀ x,VNode ap J.length x→VNode ap J.length (up x)
 cnode:∀ x,VNode ap J.length x→VNode ap J.length (cl x)
 same:∀ x,VNode ap J.length x→cl (up x)=cl x
 idem:∀ x,VNode ap J.length x→cl (cl x)=cl x
 stop:∀ x,VNode ap J.length x→(up x=x ↔ cl x=x)
 down:∀ x,VNode ap J.length x→up x≠x→ρ (up x)<ρ x
 reps:∀ c,VNode ap J.length c→cl c=c→(rep c = -1∧J.length≤c)∨∃ p:Nat,rep c=p∧p<J.length∧cl p=c
 led:∀ x,VNode ap J.length x→ld (ptN ap J.length x)=if rep (cl x)<0 then ptN ap J.length (cl x) else rep (cl x)
structure NB where
 nb:Nat
 tb:Nat
 ab:Nat
 ub:Nat
 rb:Nat
 tc:Nat
 ac:Nat
 uc:Nat
 rc:Nat
 lv:Value
 top:Nat
def NB.Two (B:NB) (k:Nat):Prop:=k=B.ub∨k=B.rb
structure NC (L:List Sym) (B:NB) (w:World) (T J:List Int) (up:Nat→Nat) (rep:Nat→Int):Prop where
 blk:w.heap[B.nb]? = some (.cells #[B.lv,.slice (some ⟨B.tb,0,none⟩) J.length B.tc,.slice (some ⟨B.ab,0,none⟩) J.length B.ac,.slice (some ⟨B.ub,0,none⟩) (J.length+200) B.uc,.slice (some ⟨B.rb,0,none⟩) (J.length+200) B.rc] 398 (0,0))
 nums:Nums w B.tb J.length (fun i=>at' T i)
 args:∀ p,p<J.length→∃ go gc,w.cell? ⟨B.ab,p,none⟩=some (.slice go (kidsL L J p).length gc)∧IntsAt w go ((kidsL L J p).map (fun k:Nat=>(k:Int)))∧∀ a,go=some a→¬ B.Two a.block∧a.block<B.top
 alt:B.ab<w.heap.size
 ups:Nums w B.ub (J.length+200) (fun i=>(up i:Int))
 reps:Nums w B.rb (J.length+200) rep
 n1:¬ B.Two B.nb
 n2:¬ B.Two B.tb
 n3:¬ B.Two B.ab
 n4:B.ub≠B.rb
 t1:B.nb<B.top
 t2:B.tb<B.top
 t3:B.ab<B.top
 t4:B.ub<B.top
 t5:B.rb<B.top
end Go.Proofs.YtflcpepjmonlpaaGreatDoor
namespace Go.Proofs.YtflcpepjmonlpaaGreatDoor
set_option linter.unusedVariables false
open Go.RowKit
attribute [local go_sem ↓] Go.wp_at_zero Go.wp_at_succ
def turnCells (l:List (Nat × Nat)):List Value:=l.flatMap fun x=>[.int .i64 (x.1:Int),.int .i64 (x.2:Int)]
theorem turnCells_length (l:List (Nat × Nat)):(turnCells l).length=l.length * 2:=by
 induction l with
 | nil=>rfl
 | cons x r ih=>simp [turnCells] at ih ⊢;omega
theorem turnCells_append (a b:List (Nat × Nat)):turnCells (a++b)=turnCells a++turnCells b:=by simp [turnCells]
theorem turnCells_at {l:List (Nat × Nat)} {i:Nat} (h:i<l.length):(turnCells l)[i * 2]? = some (.int .i64 (l[i].1:Int))∧(turnCells l)[i * 2+1]? = some (.int .i64 (l[i].2:Int)):=by
 induction l generalizing i with
 | nil=>simp at h
 | cons x r ih=>
  have e:turnCells (x :: r)=.int .i64 (x.1:Int) :: .int .i64 (x.2:Int) :: turnCells r:=by simp [turnCells]
  rw [e]
  cases i with
  | zero=>simp
  | succ j=>
   have:=ih (i:=j) (by simpa using h)
   rw [show (j+1) * 2=j * 2+1+1 by omega]
   simpa using this
theorem info_turn:(Tryz.prog.info? 402).map (fun i=>(i.zero,i.size,i.bytes))=some (some (.agg #[.int .i64 0,.int .i64 0]),2,16):=by kernel_rfl
def Fine (st:List (Nat × Nat)):Prop:=∀ x∈st,x.1<x.2∧x.2≤6
theorem bump_fine {st:List (Nat × Nat)} (h:Fine st):Fine (bump st):=by
 induction st with
 | nil=>exact h
 | cons x r ih=>
  obtain ⟨j,a⟩:=x
  have hx:=h (j,a) (by simp)
  have hr:Fine r:=fun y hy=>h y (by simp [hy])
  unfold bump
  split
  ·intro y hy
   rcases List.mem_cons.1 hy with rfl | hy
   ·exact ⟨by simpa using (by assumption:j+1<a),hx.2⟩
   ·exact hr y hy
  ·exact ih hr
theorem pass_fine {st:List (Nat × Nat)} (h:Fine st) {a:Nat} (ha:a≤6):Fine (pass st a):=by
 unfold pass
 split
 ·intro y hy
  rcases List.mem_cons.1 hy with rfl | hy
  ·exact ⟨by assumption,ha⟩
  ·exact h y hy
 ·exact bump_fine h
theorem bump_length (st:List (Nat × Nat)):(bump st).length≤st.length:=by
 induction st with
 | nil=>simp [bump]
 | cons x r ih=>
  obtain ⟨j,a⟩:=x
  unfold bump
  split
  ·simp
  ·simp;omega
theorem pass_length (st:List (Nat × Nat)) (a:Nat):(pass st a).length≤st.length+1:=by
 unfold pass
 split
 ·simp
 ·have:=bump_length st;omega
structure TrailAt (base:Nat) (w:World) (a:Nat) (v:Value) (st:List (Nat × Nat)):Prop where
 blk:w.heap[a]? = some (.cells #[v] 369 (0,0))
 row:w.ownsRow base 402 2 v st.length (turnCells st.reverse)
 ap:v.ownBlock≠some a
 fine:Fine st
 len:st.length≤2000
def TFoot (a:Nat) (v:Value) (k:Nat):Prop:=k=a∨v.ownBlock=some k
theorem TrailAt.same {base:Nat} {w w' : World} {a:Nat} {v:Value} {st:List (Nat × Nat)} (h:TrailAt base w a v st) (k:Same0 w w'):TrailAt base w' a v st:=
 ⟨k.at h.blk (fun f=>f),Kept.row k h.row (fun _ _ f=>f),h.ap,h.fine,h.len⟩
theorem row_take {w:World} {base g n cap size m:Nat} {e:TypeId} {xs:List Value} (h:w.ownsRow base e size (.slice (some ⟨g,0,none⟩) n cap) n xs) (hm:m≤n):w.ownsRow base e size (.slice (some ⟨g,0,none⟩) m cap) m (xs.take (m * size)):=by
 have hl:=h.1
 have hmn:m * size≤n * size:=Nat.mul_le_mul_right _ hm
 refine ⟨by rw [List.length_take,hl];omega,?_⟩
 rcases h.2 with ⟨e1,_⟩ | ⟨g', cap', cur,hv,hb,hg,h1,h2,h3,h4⟩
 ·cases e1
 ·simp only [Value.slice.injEq,Option.some.injEq,Addr.mk.injEq,and_true,true_and] at hv
  obtain ⟨rfl,rfl⟩:=hv
  exact .inr ⟨g,cap,cur,rfl,hb,hg,by omega,h2,h3,by rw [← h4,List.take_take,Nat.min_eq_left hmn]⟩
def Passed (base:Nat) (w:World) (a:Nat) (v:Value) (st' : List (Nat × Nat)) (w' : World):Prop:=∃ v', TrailAt base w' a v' st' ∧ Kept (TFoot a v) w w' ∧ ∀ k,TFoot a v' k→TFoot a v k∨w.heap.size≤k
structure Popped (base:Nat) (w:World) (a:Nat) (v0:Value) (st0:List (Nat × Nat)) (wr:World) (v:Value) (st:List (Nat × Nat)):Prop where
 tr:TrailAt base wr a v st
 k:Kept (TFoot a v0) w wr
 f:∀ k,TFoot a v k→TFoot a v0 k
 eq:Hid (bump st=bump st0)
theorem Popped.step {base:Nat} {w:World} {a g cap:Nat} {v0:Value} {st0:List (Nat × Nat)} {wr:World} {j n:Nat} {r:List (Nat × Nat)} (h:Popped base w a v0 st0 wr (.slice (some ⟨g,0,none⟩) (r.length+1) cap) ((j,n) :: r)) :
  (j+1<n→TrailAt base (wr.setCell ⟨g,r.length * 2,none⟩ (.int .i64 ((j:Int)+1))) a (.slice (some ⟨g,0,none⟩) (r.length+1) cap) (bump st0)∧Kept (TFoot a v0) w (wr.setCell ⟨g,r.length * 2,none⟩ (.int .i64 ((j:Int)+1)))∧∀ k,TFoot a (.slice (some ⟨g,0,none⟩) (r.length+1) cap) k→TFoot a v0 k) ∧
  (¬ j+1<n→Popped base w a v0 st0 ((wr.setCell ⟨g,r.length * 2,none⟩ (.int .i64 ((j:Int)+1))).setCell ⟨a,0,none⟩ (.slice (some ⟨g,0,none⟩) r.length cap)) (.slice (some ⟨g,0,none⟩) r.length cap) r):=by
 have hga:g≠a:=fun e=>h.tr.ap (by rw [e];rfl)
 have k1:Kept (TFoot a v0) w (wr.setCell ⟨g,r.length * 2,none⟩ (.int .i64 ((j:Int)+1))):=h.k.setCell (p:=⟨g,r.length * 2,none⟩) (fun _=>h.f g (.inr rfl)) _
 have hrow:=h.tr.row
 have hx:turnCells ((j,n) :: r).reverse=turnCells r.reverse ++ [.int .i64 (j:Int),.int .i64 (n:Int)]:=by
  rw [List.reverse_cons,turnCells_append];simp [turnCells]
 have hl2:(turnCells r.reverse).length=r.length * 2:=by rw [turnCells_length,List.length_reverse]
 rw [hx] at hrow
 have hs:=(hrow.stored (r.length * 2) (.int .i64 ((j:Int)+1))).1
 have hset:(turnCells r.reverse ++ [Value.int .i64 (j:Int),.int .i64 (n:Int)]).set (r.length * 2) (.int .i64 ((j:Int)+1))=turnCells r.reverse ++ [.int .i64 ((j:Int)+1),.int .i64 (n:Int)]:=by
  rw [← hl2,List.set_append_right _ _ (Nat.le_refl _)];simp
 rw [hset] at hs
 have hb:(wr.setCell ⟨g,r.length * 2,none⟩ (.int .i64 ((j:Int)+1))).heap[a]? = some (.cells #[.slice (some ⟨g,0,none⟩) (r.length+1) cap] 369 (0,0)):=by
  rw [Below.heap_setCell _ _ _ _ (by simpa using (Ne.symm hga))]
  exact h.tr.blk
 have hfr:Fine r:=fun y hy=>h.tr.fine y (by simp [hy])
 have hlr:r.length≤2000:=by have:=h.tr.len;simp at this;omega
 have hf0:=h.tr.fine (j,n) (by simp)
 constructor
 ·intro hj
  have e1:bump st0=(j+1,n) :: r:=by rw [← h.eq.out,bump,if_pos hj]
  rw [e1]
  refine ⟨⟨hb,?_,h.tr.ap,?_,by simpa using h.tr.len⟩,k1,h.f⟩
  ·have:turnCells ((j+1,n) :: r).reverse=turnCells r.reverse ++ [.int .i64 ((j:Int)+1),.int .i64 (n:Int)]:=by
    rw [List.reverse_cons,turnCells_append];simp [turnCells]
   rw [this];exact hs
  ·intro y hy
   rcases List.mem_cons.1 hy with rfl | hy
   ·exact ⟨hj,hf0.2⟩
   ·exact hfr y hy
 ·intro hj
  have e1:bump r=bump st0:=by rw [← h.eq.out,bump,if_neg hj]
  have ht:=row_take (m:=r.length) hs (by omega)
  rw [List.take_left' (by rw [hl2])] at ht
  have k2:Kept (fun k=>k=a) (wr.setCell ⟨g,r.length * 2,none⟩ (.int .i64 ((j:Int)+1))) ((wr.setCell ⟨g,r.length * 2,none⟩ (.int .i64 ((j:Int)+1))).setCell ⟨a,0,none⟩ (.slice (some ⟨g,0,none⟩) r.length cap)):=Kept.setCell (S:=fun k=>k=a) (p:=⟨a,0,none⟩) (Kept.refl _ _) (fun _=>rfl) _
  refine ⟨⟨?_,?_,by simpa [Value.ownBlock] using hga,hfr,hlr⟩,k1.setCell (p:=⟨a,0,none⟩) (fun _=>.inl rfl) _,fun k hk=>h.f k hk,e1⟩
  ·rw [setAt hb];rfl
  ·exact k2.row ht (fun k e e' => by simp [Value.ownBlock] at e;omega)
theorem Popped.cells {base:Nat} {w:World} {a:Nat} {v0 v:Value} {st0:List (Nat × Nat)} {wr:World} {j n:Nat} {r:List (Nat × Nat)} (h:Popped base w a v0 st0 wr v ((j,n) :: r)) :
  ∃ g cap,v=.slice (some ⟨g,0,none⟩) (r.length+1) cap∧g≠a∧wr.cell? ⟨a,0,none⟩=some v∧wr.frozen? ⟨a,0,none⟩=false∧wr.cell? ⟨g,r.length * 2,none⟩=some (.int .i64 (j:Int))∧wr.cell? ⟨g,r.length * 2+1,none⟩=some (.int .i64 (n:Int))∧wr.frozen? ⟨g,r.length * 2,none⟩=false∧g<wr.heap.size:=by
 obtain ⟨g,cap,hv,_,hlt⟩:=h.tr.row.form (by simp)
 subst hv
 have hga:g≠a:=fun e=>h.tr.ap (by rw [e];rfl)
 have hrow:=h.tr.row
 have hi:r.length<((j,n) :: r).reverse.length:=by simp
 obtain ⟨c1,c2⟩:=turnCells_at hi
 have e:((j,n) :: r).reverse[r.length]=(j,n):=by simp
 rw [e] at c1 c2
 refine ⟨g,cap,rfl,hga,cellAt h.tr.blk 0,frozenAt h.tr.blk 0,?_,?_,hrow.frozenAt _,hlt⟩
 ·rw [hrow.cellAt _ (by simp)];exact c1
 ·rw [hrow.cellAt _ (by simp;omega)];exact c2
theorem Passed.same {base:Nat} {w w' w'' : World} {a:Nat} {v:Value} {st:List (Nat × Nat)} (h:Passed base w a v st w') (k:Same0 w' w''):Passed base w a v st w'' := by
 obtain ⟨v', h1,h2,h3⟩:=h
 exact ⟨v', h1.same k,h2.trans k (fun _ _ f=>f.elim),h3⟩
theorem Popped.same {base:Nat} {w:World} {a:Nat} {v0 v:Value} {st0 st:List (Nat × Nat)} {wr wr' : World} (h:Popped base w a v0 st0 wr v st) (k:Same0 wr wr'):Popped base w a v0 st0 wr' v st:=
 ⟨h.tr.same k,h.k.trans k (fun _ _ f=>f.elim),h.f,h.eq⟩
theorem push_end {base:Nat} {w w1:World} {a n gg cap:Nat} {v:Value} {st:List (Nat × Nat)} (h:TrailAt base w a v st) (hb:base≤w.heap.size) (hn:0<n) (hn6:n≤6) (hl:st.length<2000)
  (hown:w1.ownsRow base 402 2 (.slice (some ⟨gg,0,none⟩) (st.length+1) cap) (st.length+1) (turnCells st.reverse ++ [.int .i64 0,.int .i64 (n:Int)]))
  (hgrow:(w.alloc (.cells #[.int .i64 0,.int .i64 (n:Int)] 402)).grownBy w1 v.ownBlock) (hat:v.ownBlock=some gg∨gg=w.heap.size+1) :
  (w1.heap[a]? = some (.cells #[v] 369 (0,0)))∧Passed base w a v (pass st n) (w1.setCell ⟨a,0,none⟩ (.slice (some ⟨gg,0,none⟩) (st.length+1) cap)):=by
 have la:=lt_of_at h.blk
 have k1:Kept (fun k=>v.ownBlock=some k) w w1:=Kept.grown (Kept.alloc (Kept.refl _ w) _) hgrow (fun _ e _=>e)
 have hb1:=k1.at h.blk h.ap
 have hga:gg≠a:=by
  rcases hat with e | e
  ·intro e'; exact h.ap (by rw [e,e'])
  ·omega
 have k2:Kept (TFoot a v) w (w1.setCell ⟨a,0,none⟩ (.slice (some ⟨gg,0,none⟩) (st.length+1) cap)):=(k1.mono (fun _ _ e=>.inr e)).setCell (p:=⟨a,0,none⟩) (fun _=>.inl rfl) _
 have k3:Kept (fun k=>k=a) w1 (w1.setCell ⟨a,0,none⟩ (.slice (some ⟨gg,0,none⟩) (st.length+1) cap)):=Kept.setCell (S:=fun k=>k=a) (p:=⟨a,0,none⟩) (Kept.refl _ _) (fun _=>rfl) _
 have e1:pass st n=(0,n) :: st:=by rw [pass,if_pos hn]
 refine ⟨hb1,.slice (some ⟨gg,0,none⟩) (st.length+1) cap,⟨?_,?_,by simpa [Value.ownBlock] using hga,pass_fine h.fine hn6,?_⟩,k2,?_⟩
 ·rw [setAt hb1];rfl
 ·rw [e1]
  have:turnCells ((0,n) :: st).reverse=turnCells st.reverse ++ [.int .i64 0,.int .i64 (n:Int)]:=by
   rw [List.reverse_cons,turnCells_append];simp [turnCells]
  rw [this]
  exact k3.row hown (fun k e e' => by simp [Value.ownBlock] at e;omega)
 ·rw [e1];simp;omega
 ·intro k hk
  rcases hk with e | e
  ·exact .inl (.inl e)
  ·simp [Value.ownBlock] at e
   subst e
   rcases hat with e | e
   ·exact .inl (.inr e)
   ·right;omega
set_option maxHeartbeats 4000000 in
theorem pass_any {base:Nat} {w:World} {a:Nat} {v:Value} {st:List (Nat × Nat)} (h:TrailAt base w a v st) (hb:base≤w.heap.size) (n:Nat) (hn6:n≤6) (hl:st.length<2000) :
  Calls Tryz.prog 244 #[.pointer (some ⟨a,0,none⟩),.int .i64 (n:Int)] w fun e w' => (∃ x,e=.returned x)∧Passed base w a v (pass st n) w' := by
 obtain ⟨vo,vcap,rfl⟩:=row_shape h.row
 have c0:=cellAt h.blk 0
 have f0:=frozenAt h.blk 0
 simp only [List.getElem?_toArray,List.getElem?_cons_zero] at c0
 by_cases hn:0<n
 ·obtain ⟨i0,hi0,hz0,hz1,hz2⟩:=info_parts info_turn
  have hn1:st.length+1≤maxLen:=by unfold maxLen;omega
  have hn2:(st.length+1) * 16≤140737488355328:=by omega
  have hb' : base≤(w.alloc (.cells #[.int .i64 0,.int .i64 (n:Int)] 402)).heap.size:=by simp;omega
  have hnn:(0:Int)<(n:Int):=by omega
  have PE:=fun gg cap w1 hown hgrow hat=>push_end (gg:=gg) (cap:=cap) (w1:=w1) h hb hn hn6 hl hown hgrow hat
  go_enter Tryz.func244,Tryz.ntmps244
  go_wp2_with (first | (at_builtin;refine wpList_append_lies _ rfl _ _ 369 rfl base 402 i0 _ 2 16 Tryz.underlying369 hi0 hz0 hz1 hz2 rfl (by omega) (.slice vo st.length vcap) st.length (turnCells st.reverse) rfl (h.row.alloc _) ⟨w.heap.size,0,none⟩ 1 1 [.int .i64 0,.int .i64 (n:Int)] rfl rfl (World.news_of_block (cs:=#[.int .i64 0,.int .i64 (n:Int)]) (t:=402) (fr:=(0,0)) (heap_alloc_new w _)) (by simp [Value.oneCell']) (by omega) hn1 hn2 hb' (w.heap.size+1) (by simp) ?_;intro gg cap w1 hown hgrow hat hlt;obtain ⟨b1,hP⟩:=PE gg cap w1 hown hgrow hat;have k0:=cellAt b1 0;have k1:=frozenAt b1 0;simp only [List.getElem?_toArray,List.getElem?_cons_zero] at k0))
  go_returns
  exact ⟨⟨_,rfl⟩,hP⟩
 ·obtain rfl:n=0:=by omega
  have e0:Hid (pass st 0=bump st):=by show _=_;simp [pass]
  have P0:Popped base w a (.slice vo st.length vcap) st w (.slice vo st.length vcap) st:=⟨h,Kept.refl _ _,fun k hk=>hk,rfl⟩
  clear h
  go_enter Tryz.func244,Tryz.ntmps244
  go_wp2
  go_loopw [4] (fun tp wr=>∃ v' st', tp=.int .i64 ((st'.length:Int)-1)∧Popped base w a (.slice vo st.length vcap) st wr v' st') (fun tp _=>(intOf tp+1).toNat)
  case atStart=>exact ⟨_,st,rfl,P0⟩
  case round=>
   obtain ⟨v', st', rfl,hP⟩:=hrel
   cases st' with
   | nil=>
    have e1:bump st=[]:=by have:=hP.eq.out;rw [← this];rfl
    have fin:Passed base w a (.slice vo st.length vcap) (pass st 0) wr:=by
     rw [e0.out,e1]
     exact ⟨v', hP.tr,hP.k,fun k hk=>.inl (hP.f k hk)⟩
    clear hP e1
    go_wp2
    go_returns
    exact ⟨⟨_,rfl⟩,fin⟩
   | cons x r=>
    obtain ⟨j,n⟩:=x
    obtain ⟨g,cap,rfl,hga,q0,q1,q2,q3,q4,q5⟩:=hP.cells
    have hjn:=hP.tr.fine (j,n) (by simp)
    have hrl:=hP.tr.len
    obtain ⟨s1,s2⟩:=hP.step
    have hl1:(((j,n) :: r).length:Int)-1=(r.length:Int):=by simp
    rw [hl1]
    have i1:(0:Int)≤(r.length:Int):=by omega
    have i2:(r.length:Int)<((r.length+1:Nat):Int):=by omega
    simp only at hjn
    simp at hrl
    by_cases hj:j+1<n
    ·obtain ⟨t1,t2,t3⟩:=s1 hj
     have fin:Passed base w a (.slice vo st.length vcap) (pass st 0) (wr.setCell ⟨g,r.length * 2,none⟩ (.int .i64 ((j:Int)+1))):=by
      rw [e0.out]
      exact ⟨_,t1,t2,fun k hk=>.inl (t3 k hk)⟩
     have hji:(j:Int)+1<(n:Int):=by omega
     clear s1 s2 hP t1 t2 t3
     go_wp2
     go_quiet (fail)
     go_wp2
     go_returns
     exact ⟨⟨_,rfl⟩,fin.same ((Kept.refl _ _).drewN nq)⟩
    ·have hP2:=s2 hj
     have hji:¬ (j:Int)+1<(n:Int):=by omega
     have i3:(r.length:Int)≤(cap:Int):=by
      rcases hP.tr.row.2 with ⟨e,_⟩ | ⟨_,_,_,hv,_,_,hle,_⟩
      ·cases e
      ·simp only [Value.slice.injEq] at hv
       have:=hv.2.2
       simp at hle
       omega
     clear s1 s2 hP
     go_wp2
     go_quiet (fail)
     go_wp2
     have hP3:=hP2.same ((Kept.refl _ _).drewN nq)
     go_roundw
     case rel=>first | exact ⟨_,r,by go_num,hP3⟩ | ((repeat apply Exists.intro);exact ⟨⟨_,r,by go_num,hP3⟩,rfl⟩)
     case measure=>simp [intOf]
end Go.Proofs.YtflcpepjmonlpaaGreatDoor
namespace Go.Proofs.YtflcpepjmonlpaaGreatDoor
set_option maxRecDepth 100000
set_option linter.unusedVariables false
open Go.RowKit
attribute [local go_sem ↓] Go.wp_at_zero Go.wp_at_succ
def flatP (ps:List (Nat × Nat)):List Int:=ps.flatMap (fun r=>[(r.1:Int),(r.2:Int)])
def pairsI (ps:List (Nat × Nat)):List Int:=flatP ps.reverse
def NAt (L:List Sym) (ap:Bool) (B:NB) (w:World) (T J:List Int) (ld:Int→Int):Prop:=∃ up rep cl ρ,NC L B w T J up rep∧NR ap J up rep cl ρ ld
structure NRel (L:List Sym) (ap:Bool) (B:NB) (T J:List Int) (res:Option (Int→Int)) (w0:World) (k:Nat) (wr:World) (v:Value) (ld:Int→Int) (ps:List (Nat × Nat)):Prop where
 u:NOk L J res k ld ps
 j:NAt L ap B wr T J ld
 row:Row w0.heap.size wr v (pairsI ps)
 kept:Kept B.Two w0 wr
end Go.Proofs.YtflcpepjmonlpaaGreatDoor
namespace Go.Proofs.YtflcpepjmonlpaaGreatDoor
set_option linter.unusedVariables false
end Go.Proofs.YtflcpepjmonlpaaGreatDoor
namespace Go.Proofs.YtflcpepjmonlpaaGreatDoor
set_option maxRecDepth 100000
set_option linter.unusedVariables false
open Go.RowKit
structure Fam (b2:Nat) (w:World) (vs:Nat→Value) (xs:Nat→List Int) (va:Value) (AA:List (List Int)):Prop where
 rows:∀ i,i<3→Row b2 w (vs i) (xs i)
 ap:∀ i j,i<3→j<3→i≠j→∀ q,(vs i).ownBlock=some q→(vs j).ownBlock≠some q
 apa:∀ i,i<3→∀ q,(vs i).ownBlock=some q→va.ownBlock≠some q
 ar:∃ cs,w.ownsRow b2 51 1 va AA.length cs∧∀ j (h:j<AA.length),∃ v,cs[j]? = some v∧Row b2 w v AA[j]∧∀ q,v.ownBlock=some q→va.ownBlock≠some q∧∀ i,i<3→(vs i).ownBlock≠some q
end Go.Proofs.YtflcpepjmonlpaaGreatDoor
namespace Go.Proofs.YtflcpepjmonlpaaGreatDoor
set_option maxRecDepth 100000
set_option linter.unusedVariables false
open Go.RowKit
attribute [local go_sem ↓] Go.wp_at_zero Go.wp_at_succ
structure TwoR (w0 w:World) (vo vt:Value) (O W:List Int):Prop where
 o:Row w0.heap.size w vo O
 t:Row w0.heap.size w vt W
 ap:∀ q,vo.ownBlock=some q→vt.ownBlock≠some q
 kept:Same0 w0 w
structure LS (w0 w:World) (rv sa sb:Value) (vs:Nat→Value) (va:Value) (xs:Nat→List Int) (AA:List (List Int)):Prop where
 fam:Fam (w0.heap.size+2) w vs xs va AA
 blk:w.heap[w0.heap.size]? = some (.cells #[rv,vs 0,va,vs 1,vs 2] 398 (0,0))
 two:w.heap[w0.heap.size+1]? = some (.cells #[sa,sb] 78 (0,0))
 kept:Same0 w0 w
 big:w0.heap.size+2≤w.heap.size
end Go.Proofs.YtflcpepjmonlpaaGreatDoor
namespace Go.Proofs.YtflcpepjmonlpaaGreatDoor
set_option linter.unusedVariables false
end Go.Proofs.YtflcpepjmonlpaaGreatDoor
namespace Go.Proofs.YtflcpepjmonlpaaGreatDoor
set_option maxRecDepth 100000
set_option linter.unusedVariables false
open Go.RowKit
attribute [local go_sem ↓] Go.wp_at_zero Go.wp_at_succ
def KA (L:List Sym) (J:List Int) (m:Nat):List (List Int):=(List.range m).map (fun p=>(kidsL L J p).map (fun k:Nat=>(k:Int)))
structure MO (w:World) (m:Nat) (ro:Option Addr) (rc:Nat) (L:List Sym) (R:List Ru) (lv:Value) (vs:List Value):Prop where
 blk:w.heap[m]? = some (.cells #[.slice ro L.length rc,lv] 157 (0,0))
 rl:Rl w.heap.size w (.slice ro L.length rc) L
 row:w.ownsRow 0 102 2 lv R.length vs
 own:OCells w vs R
 le:R.length≤100
 ok:∀ x∈R,checkE L x.1=0∧checkE L x.2=0
theorem own_typed {base n size:Nat} {w:World} {T:TypeId} {v:Value} {vs:List Value} (h:w.ownsRow base T size v n vs) {q:Nat} (hq:v.ownBlock=some q):∃ cur,w.heap[q]? = some (.cells cur T (0,0)):=by
 rcases h.2 with ⟨rfl,_⟩ | ⟨g,cap,cur,rfl,_,hg,_⟩
 ·simp [Value.ownBlock] at hq
 ·simp only [Value.ownBlock,Option.some.injEq] at hq
  subst hq
  exact ⟨cur,hg⟩
end Go.Proofs.YtflcpepjmonlpaaGreatDoor
namespace Go.Proofs.YtflcpepjmonlpaaGreatDoor
set_option maxRecDepth 100000
set_option linter.unusedVariables false
open Go.RowKit
theorem info_ins:(Tryz.prog.info? 129).map (fun i=>(i.zero,i.size,i.bytes))=some (some (.agg #[.int .i64 0,.int .i64 0,.int .i64 0]),3,24):=by kernel_rfl
theorem info_path:(Tryz.prog.info? 51).map (fun i=>(i.zero,i.size,i.bytes))=some (some (.slice none 0 0),1,24):=by kernel_rfl
def insV (I:List I3):List Value:=(flat3 I).map (fun x=>.int .i64 x)
theorem insV_append (a b:List I3):insV (a++b)=insV a++insV b:=by simp [insV,flat3_append]
theorem insV_one (x:I3):insV [x]=[.int .i64 x.1,.int .i64 x.2.1,.int .i64 x.2.2]:=rfl
theorem insV_setB (I:List I3) (c:Nat) (b:Int):insV (setB I c b)=(insV I).set (c * 3+2) (.int .i64 b):=by
 simp [insV,flat3_setB,List.map_set]
def PathsC (B:Nat→Prop) (w:World) (vs:List Value) (P:List (List Int)):Prop:=
 vs.length=P.length∧∀ i (h:i<P.length),∃ ao ac,vs[i]? = some (.slice ao P[i].length ac)∧ArgT w ao P[i] ac∧∀ a,ao=some a→¬ B a.block
theorem PathsC.kept {B S:Nat→Prop} {w w' : World} {vs:List Value} {P:List (List Int)} (h:PathsC B w vs P) (hk:Kept S w w') (hS:∀ k,S k→∀ cur,w.heap[k]? ≠ some (.cells cur 3 (0,0))):PathsC B w' vs P:=
 ⟨h.1,fun i hi=>by
  obtain ⟨ao,ac,h1,h2,h3⟩:=h.2 i hi
  exact ⟨ao,ac,h1,h2.kept hk hS,h3⟩⟩
theorem PathsC.mono {B B' : Nat→Prop} {w:World} {vs:List Value} {P:List (List Int)} (h:PathsC B w vs P) (hB:∀ b,b<w.heap.size→B' b→B b):PathsC B' w vs P:=
 ⟨h.1,fun i hi=>by
  obtain ⟨ao,ac,h1,h2,h3⟩:=h.2 i hi
  refine ⟨ao,ac,h1,h2,fun a e q=>?_⟩
  obtain ⟨cur,hc⟩:=h2.2 a e
  exact h3 a e (hB _ (lt_of_at hc) q)⟩
theorem PathsC.nil (B:Nat→Prop) (w:World):PathsC B w [] []:=⟨rfl,fun i h=>absurd h (by simp)⟩
theorem PathsC.snoc {B:Nat→Prop} {w:World} {vs:List Value} {P:List (List Int)} (h:PathsC B w vs P) {p:List Int} {ao:Option Addr} {ac:Nat} (h2:ArgT w ao p ac) (h3:∀ a,ao=some a→¬ B a.block):PathsC B w (vs ++ [.slice ao p.length ac]) (P ++ [p]):=by
 refine ⟨by simp [h.1],fun i hi=>?_⟩
 by_cases hl:i<P.length
 ·rw [List.getElem_append_left hl,List.getElem?_append_left (by rw [h.1];omega)]
  exact h.2 i hl
 ·obtain rfl:i=P.length:=by simp at hi;omega
  refine ⟨ao,ac,?_,by simpa using h2,h3⟩
  rw [List.getElem?_append_right (by rw [h.1];omega),h.1];simp
structure Lay (B:Nat→Prop) (w:World) (vi vp:Value) (s:St9):Prop where
 ri:w.ownsRow 0 129 3 vi s.1.length (insV s.1)
 ib:∀ k,vi.ownBlock=some k→¬ B k
 rp:∃ vs,w.ownsRow 0 51 1 vp s.2.length vs∧PathsC B w vs s.2
 pb:∀ k,vp.ownBlock=some k→¬ B k
theorem Lay.nil (B:Nat→Prop) (w:World):Lay B w (.slice none 0 0) (.slice none 0 0) ([],[]):=
 ⟨World.ownsRow_nil _ _ _ _,(fun k e=>by simp [Value.ownBlock] at e),⟨[],World.ownsRow_nil _ _ _ _,PathsC.nil _ _⟩,fun k e=>by simp [Value.ownBlock] at e⟩
theorem typed_lt {w:World} {base n size:Nat} {T:TypeId} {v:Value} {vs:List Value} (h:w.ownsRow base T size v n vs) {q:Nat} (hq:v.ownBlock=some q):q<w.heap.size:=by
 obtain ⟨cur,hc⟩:=own_typed h hq
 exact lt_of_at hc
theorem Lay.mono {B B' : Nat→Prop} {w:World} {vi vp:Value} {s:St9} (h:Lay B w vi vp s) (hB:∀ b,b<w.heap.size→B' b→B b):Lay B' w vi vp s:=by
 obtain ⟨h1,h2,⟨vs,h3,h4⟩,h5⟩:=h
 exact ⟨h1,fun k e q=>h2 k e (hB k (typed_lt h1 e) q),⟨vs,h3,h4.mono hB⟩,fun k e q=>h5 k e (hB k (typed_lt h3 e) q)⟩
theorem Lay.kept {B S:Nat→Prop} {w w' : World} {vi vp:Value} {s:St9} (h:Lay B w vi vp s) (hk:Kept S w w') (hS:∀ k,S k→(∀ cur,w.heap[k]? ≠ some (.cells cur 3 (0,0)))∧(∀ cur,w.heap[k]? ≠ some (.cells cur 129 (0,0)))∧(∀ cur,w.heap[k]? ≠ some (.cells cur 51 (0,0)))):Lay B w' vi vp s:=by
 obtain ⟨h1,h2,⟨vs,h3,h4⟩,h5⟩:=h
 refine ⟨hk.row h1 (fun k e q=>?_),h2,⟨vs,hk.row h3 (fun k e q=>?_),h4.kept hk (fun k q=>(hS k q).1)⟩,h5⟩
 ·obtain ⟨cur,hc⟩:=own_typed h1 e
  exact (hS k q).2.1 cur hc
 ·obtain ⟨cur,hc⟩:=own_typed h3 e
  exact (hS k q).2.2 cur hc
theorem Lay.same {B:Nat→Prop} {w w' : World} {vi vp:Value} {s:St9} (h:Lay B w vi vp s) (hk:Same0 w w'):Lay B w' vi vp s:=h.kept hk (fun _ f=>f.elim)
theorem Lay.ins {B:Nat→Prop} {w w' : World} {vi vp vi' : Value} {s:St9} (h:Lay B w vi vp s) (x:I3) (hr:w'.ownsRow 0 129 3 vi' (s.1.length+1) (insV s.1 ++ [.int .i64 x.1,.int .i64 x.2.1,.int .i64 x.2.2])) (hk:Kept (fun k=>vi.ownBlock=some k) w w') (hn:∀ k,vi'.ownBlock=some k→vi.ownBlock=some k∨w.heap.size≤k) (hB:∀ b,B b→b<w.heap.size):Lay B w' vi' vp (s.1 ++ [x],s.2):=by
 obtain ⟨h1,h2,⟨vs,h3,h4⟩,h5⟩:=h
 refine ⟨?_,fun k e q=>?_,⟨vs,hk.row h3 (fun k e q=>?_),h4.kept hk (fun k q cur hc=>?_)⟩,h5⟩
 ·rw [insV_append,insV_one]
  simpa using hr
 ·rcases hn k e with q2 | q2
  ·exact h2 k q2 q
  ·have:=hB k q;omega
 ·obtain ⟨cur,hc⟩:=own_typed h3 e
  obtain ⟨cur', hc'⟩:=own_typed h1 q
  rw [hc] at hc'; cases hc'
 ·obtain ⟨cur', hc'⟩:=own_typed h1 q
  rw [hc] at hc'; cases hc'
theorem Lay.path {B:Nat→Prop} {w w' : World} {vi vp vp' : Value} {s:St9} (h:Lay B w vi vp s) {vs:List Value} (hp:w.ownsRow 0 51 1 vp s.2.length vs∧PathsC B w vs s.2) {p:List Int} {ao:Option Addr} {ac:Nat} (ha:ArgT w ao p ac) (hab:∀ a,ao=some a→¬ B a.block) (hr:w'.ownsRow 0 51 1 vp' (s.2.length+1) (vs ++ [.slice ao p.length ac])) (hk:Kept (fun k=>vp.ownBlock=some k) w w') (hn:∀ k,vp'.ownBlock=some k→vp.ownBlock=some k∨w.heap.size≤k) (hB:∀ b,B b→b<w.heap.size):Lay B w' vi vp' (s.1,s.2 ++ [p]):=by
 obtain ⟨h1,h2,_,h5⟩:=h
 obtain ⟨h3,h4⟩:=hp
 refine ⟨hk.row h1 (fun k e q=>?_),h2,⟨vs ++ [.slice ao p.length ac],by simpa using hr,(h4.snoc ha hab).kept hk (fun k q cur hc=>?_)⟩,fun k e q=>?_⟩
 ·obtain ⟨cur,hc⟩:=own_typed h1 e
  obtain ⟨cur', hc'⟩:=own_typed h3 q
  rw [hc] at hc'; cases hc'
 ·obtain ⟨cur', hc'⟩:=own_typed h3 q
  rw [hc] at hc'; cases hc'
 ·rcases hn k e with q2 | q2
  ·exact h5 k q2 q
  ·have:=hB k q;omega
theorem put_row {w:World} {base g cap n size:Nat} {e:TypeId} {ys:List Value} (h:w.ownsRow base e size (.slice (some ⟨g,0,none⟩) n cap) n ys) {k:Nat} (hk:k<n * size) (u:Value):(∃ old,w.cell? ⟨g,k,none⟩=some old)∧w.frozen? ⟨g,k,none⟩=false∧(w.setCell ⟨g,k,none⟩ u).ownsRow base e size (.slice (some ⟨g,0,none⟩) n cap) n (ys.set k u):=by
 rcases h.2 with ⟨e0,_⟩ | ⟨g', cap', cur,e0,hb,hg,hle,hmx,hsz,htk⟩
 ·cases e0
 ·simp only [Value.slice.injEq,Option.some.injEq,Addr.mk.injEq] at e0
  obtain ⟨⟨rfl,_⟩,_,rfl⟩:=e0
  have hkc:k<cur.size:=by rw [hsz];exact Nat.lt_of_lt_of_le hk (Nat.mul_le_mul_right _ hle)
  refine ⟨⟨cur[k],by rw [cellAt hg];simp [hkc]⟩,frozenAt hg k,by simp [h.1],.inr ⟨g,cap,cur.setIfInBounds k u,rfl,hb,setAt hg k u,hle,hmx,by simp [hsz],?_⟩⟩
  rw [Array.toList_setIfInBounds,List.take_set,htk]
theorem Lay.setB {B:Nat→Prop} {w:World} {g n cap:Nat} {vp:Value} {s:St9} (h:Lay B w (.slice (some ⟨g,0,none⟩) n cap) vp s) (hn:n=s.1.length) {c:Nat} (hc:c<n) (b:Int):Lay B (w.setCell ⟨g,c * 3+2,none⟩ (.int .i64 b)) (.slice (some ⟨g,0,none⟩) n cap) vp (Go.Proofs.YtflcpepjmonlpaaGreatDoor.setB s.1 c b,s.2)∧(∃ old,w.cell? ⟨g,c * 3+2,none⟩=some old)∧w.frozen? ⟨g,c * 3+2,none⟩=false∧Kept (fun k=>k=g) w (w.setCell ⟨g,c * 3+2,none⟩ (.int .i64 b)):=by
 subst hn
 obtain ⟨h1,h2,⟨vs,h3,h4⟩,h5⟩:=h
 obtain ⟨a1,a2,a3⟩:=put_row h1 (k:=c * 3+2) (by omega) (.int .i64 b)
 obtain ⟨cur,hcur⟩:=own_typed h1 rfl
 have hk:Kept (fun k=>k=g) w (w.setCell ⟨g,c * 3+2,none⟩ (.int .i64 b)):=kept_at _ _ _ _
 refine ⟨⟨?_,h2,⟨vs,hk.row h3 (fun k e q=>?_),h4.kept hk (fun k q cur' hc' => ?_)⟩,h5⟩,a1,a2,hk⟩
 ·rw [insV_setB,setB_length];exact a3
 ·subst q
  obtain ⟨cur', hc'⟩:=own_typed h3 e
  rw [hcur] at hc'; cases hc'
 ·subst q
  rw [hcur] at hc'; cases hc'
end Go.Proofs.YtflcpepjmonlpaaGreatDoor
