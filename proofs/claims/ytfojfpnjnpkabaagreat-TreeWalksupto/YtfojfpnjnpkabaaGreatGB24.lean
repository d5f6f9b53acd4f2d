import Derived.Test.YtfojfpnjnpkabaaGreatGB16
import Derived.Test.YtfojfpnjnpkabaaGreatGB14
import Derived.Test.YtfojfpnjnpkabaaGreatGB23
namespace Go.Proofs.YtfojfpnjnpkabaaGreat
set_option maxRecDepth 100000
set_option linter.unusedVariables false
open Go.RowKit
attribute [local go_sem ↓] Go.wp_at_zero Go.wp_at_succ
abbrev zeroC:Value:=.agg #[.int .i64 0,.int .i64 0,.slice none 0 0,.slice none 0 0]
def treeF (L:List Sym) (R:List Ru) (s:Nat):Except Int (Tr 2001):=growF L 2001 (rootP L s) (rootR L R s)
def BldPost (L:List Sym) (R:List Ru) (n:Int) (w:World) (e:Ending) (w' : World):Prop:=
 Same0 w w' ∧ if defB L n=true then
  (match treeF L R n.toNat with
  | .ok t=>∃ v,e=.returned (.tuple #[v,.nilIface])∧CsB (fun b=>w.heap.size≤b) w' 2001 v t
  | .error z=>∃ v,e=.returned (.tuple #[zeroC,v])∧FltAt w' [(81,n),(82,z)] v)
 else ∃ v,e=.returned (.tuple #[zeroC,v])∧FltAt w' [(80,0)] v
theorem ptr_nil (b:Nat) (w:World):(binOp .eql 26 (.pointer (some ⟨b,0,none⟩)) (.pointer none)).run Tryz.prog w=.ok (.bool false) w:=by kernel_rfl
theorem kidsN_err {α:Type} {has:Nat→Bool} {g:Nat→Except Int α} {z:Int}:∀ {k:Nat},kidsN has g k=.error z→∃ j,g j=.error z
 | 0,h=>by cases h
 | k+1,h=>by
  rw [kidsN] at h
  cases hk:kidsN has g k with
  | error e=>rw [hk] at h;cases h;exact kidsN_err hk
  | ok l=>
   rw [hk] at h
   simp only at h
   split at h
   ·cases hg:g k with
    | error e=>rw [hg] at h;cases h;exact ⟨k,hg⟩
    | ok t=>rw [hg] at h;cases h
   ·cases h
theorem growF_err {L:List Sym} {z:Int}:∀ {n:Nat} {P:List (List Int)} {R:List Rw},(∀ x∈R,0≤x.1)→growF L n P R=.error z→0≤z
 | 0,P,R,hR,h=>by rw [growF] at h;cases h;omega
 | n+1,P,R,hR,h=>by
  have hh:¬ R.length=0→0≤(R.headD (0,[],[])).1:=fun h0=>by
   cases R with
   | nil=>simp at h0
   | cons x r=>exact hR x (List.mem_cons_self ..)
  by_cases h0:R.length=0
  ·rw [growF_zero h0] at h;cases h
  ·cases hp:partN R P.length with
   | some c=>
    rw [growF_branch h0 hp] at h
    unfold BrF at h
    cases hk:KidsF L n P R c L.length with
    | ok l=>rw [hk] at h;cases h
    | error e=>
     rw [hk] at h
     cases h
     obtain ⟨j,hj⟩:=kidsN_err hk
     refine growF_err (fun x hx=>?_) hj
     obtain ⟨y,hy,rfl⟩:=List.mem_map.1 hx
     exact hR y (havR_mem hy).1
   | none=>
    by_cases h1:R.length=1
    ·rw [growF_leaf h1 hp] at h;cases h
    ·rw [growF_fork h0 h1 hp] at h;cases h;exact hh h0
set_option maxHeartbeats 16000000 in
theorem build_any {w:World} {b bs:Nat} {L:List Sym} {R:List Ru} {lv:Value} {vs:List Value} (h:StAt w b bs L R lv vs) (n:Int) :
  Calls Tryz.prog 9 #[.pointer (some ⟨b,0,none⟩),.int .i64 n] w (BldPost L R n w):=by
 have hpn:=ptr_nil
 have hle:=h.le
 have hok:=h.ok
 obtain ⟨W1,hW1⟩:∃ W1,W1=((w.alloc (.cells #[.int .i64 n] 3)).alloc zeroCs).alloc (.cells #[.nilIface] 37):=⟨_,rfl⟩
 have KW:Same0 w W1:=by rw [hW1];exact (((Kept.refl _ w).alloc _).alloc _).alloc _
 have ez:W1.heap.size=w.heap.size+1+1+1:=by rw [hW1];simp
 have BK:Hid (∀ ww,Same0 W1 ww→ww.heap[w.heap.size]? = some (.cells #[.int .i64 n] 3 (0,0))∧ww.heap[w.heap.size+1]? = some (.cells #[.int .i64 0,.int .i64 0,.slice none 0 0,.slice none 0 0] 35 (0,0))∧ww.heap[w.heap.size+1+1]? = some (.cells #[.nilIface] 37 (0,0))):=fun ww hk=>by
  have k1:Same0 (w.alloc (.cells #[.int .i64 n] 3)) W1:=by rw [hW1];exact ((Kept.refl _ _).alloc _).alloc _
  have k2:Same0 ((w.alloc (.cells #[.int .i64 n] 3)).alloc zeroCs) W1:=by rw [hW1];exact (Kept.refl _ _).alloc _
  have h3:=heap_al_al (w.alloc (.cells #[.int .i64 n] 3)) zeroCs (.cells #[.nilIface] 37)
  rw [World.size_alloc] at h3
  exact ⟨hk.at0 (k1.at0 (heap_alloc_new w _)),hk.at0 (k2.at0 (heap_al_al _ _ _)),hk.at0 (by rw [hW1];exact h3)⟩
 have RC:Hid (∀ ww,Same0 W1 ww→ww.cell? ⟨w.heap.size,0,none⟩=some (.int .i64 n)∧(ww.cell? ⟨w.heap.size+1,0,none⟩=some (.int .i64 0)∧ww.cell? ⟨w.heap.size+1,1,none⟩=some (.int .i64 0)∧ww.cell? ⟨w.heap.size+1,2,none⟩=some (.slice none 0 0)∧ww.cell? ⟨w.heap.size+1,3,none⟩=some (.slice none 0 0))∧(ww.frozen? ⟨w.heap.size+1,0,none⟩=false∧ww.frozen? ⟨w.heap.size+1,1,none⟩=false∧ww.frozen? ⟨w.heap.size+1,2,none⟩=false∧ww.frozen? ⟨w.heap.size+1,3,none⟩=false)∧ww.cell? ⟨w.heap.size+1+1,0,none⟩=some .nilIface∧ww.frozen? ⟨w.heap.size+1+1,0,none⟩=false):=fun ww hk=>by
  obtain ⟨h1,h2,h3⟩:=BK.out ww hk
  exact ⟨cellAt h1 0,⟨cellAt h2 0,cellAt h2 1,cellAt h2 2,cellAt h2 3⟩,⟨frozenAt h2 0,frozenAt h2 1,frozenAt h2 2,frozenAt h2 3⟩,cellAt h3 0,frozenAt h3 0⟩
 have CS:Hid (∀ ww,Same0 w ww→Calls Tryz.prog 30 #[.pointer (some ⟨b,0,none⟩)] ww fun e w' => ∃ bt,e=.returned (.pointer (some ⟨bt,0,none⟩))∧Hid (Sg w'.heap.size w' bt L)∧Same0 ww w'):=fun ww hk=>by
  refine (ssig_any (h.same hk)).mono ?_
  rintro e w' ⟨bt,rfl,hb,sv,mr,h1,h2,h3⟩
  exact ⟨bt,rfl,⟨⟨sv,mr,h1,fun k hk=>sig_foot_lt h1 k hk⟩,h.sig.2⟩,h3⟩
 have HST:Hid (∀ ww,Same0 w ww→StAt ww b bs L R lv vs):=fun ww hk=>h.same hk
 have PUT:Hid (∀ ww x0 x1 x2 x3 y,Same0 W1 ww→((((((ww.setCell ⟨w.heap.size+1,0,none⟩ x0).setCell ⟨w.heap.size+1,1,none⟩ x1).setCell ⟨w.heap.size+1,2,none⟩ x2).setCell ⟨w.heap.size+1,3,none⟩ x3).setCell ⟨w.heap.size+1+1,0,none⟩ y)).cell? ⟨w.heap.size+1,0,none⟩=some x0∧((((((ww.setCell ⟨w.heap.size+1,0,none⟩ x0).setCell ⟨w.heap.size+1,1,none⟩ x1).setCell ⟨w.heap.size+1,2,none⟩ x2).setCell ⟨w.heap.size+1,3,none⟩ x3).setCell ⟨w.heap.size+1+1,0,none⟩ y)).cell? ⟨w.heap.size+1,1,none⟩=some x1∧((((((ww.setCell ⟨w.heap.size+1,0,none⟩ x0).setCell ⟨w.heap.size+1,1,none⟩ x1).setCell ⟨w.heap.size+1,2,none⟩ x2).setCell ⟨w.heap.size+1,3,none⟩ x3).setCell ⟨w.heap.size+1+1,0,none⟩ y)).cell? ⟨w.heap.size+1,2,none⟩=some x2∧((((((ww.setCell ⟨w.heap.size+1,0,none⟩ x0).setCell ⟨w.heap.size+1,1,none⟩ x1).setCell ⟨w.heap.size+1,2,none⟩ x2).setCell ⟨w.heap.size+1,3,none⟩ x3).setCell ⟨w.heap.size+1+1,0,none⟩ y)).cell? ⟨w.heap.size+1,3,none⟩=some x3∧((((((ww.setCell ⟨w.heap.size+1,0,none⟩ x0).setCell ⟨w.heap.size+1,1,none⟩ x1).setCell ⟨w.heap.size+1,2,none⟩ x2).setCell ⟨w.heap.size+1,3,none⟩ x3).setCell ⟨w.heap.size+1+1,0,none⟩ y)).cell? ⟨w.heap.size+1+1,0,none⟩=some y∧Kept (fun q=>q=w.heap.size+1∨q=w.heap.size+1+1) ww ((((((ww.setCell ⟨w.heap.size+1,0,none⟩ x0).setCell ⟨w.heap.size+1,1,none⟩ x1).setCell ⟨w.heap.size+1,2,none⟩ x2).setCell ⟨w.heap.size+1,3,none⟩ x3).setCell ⟨w.heap.size+1+1,0,none⟩ y))∧Same0 w ((((((ww.setCell ⟨w.heap.size+1,0,none⟩ x0).setCell ⟨w.heap.size+1,1,none⟩ x1).setCell ⟨w.heap.size+1,2,none⟩ x2).setCell ⟨w.heap.size+1,3,none⟩ x3).setCell ⟨w.heap.size+1+1,0,none⟩ y))):=by
  intro ww x0 x1 x2 x3 y hk
  obtain ⟨h1,h2,h3⟩:=BK.out ww hk
  have s3:=setAt (setAt (setAt (setAt h2 0 x0) 1 x1) 2 x2) 3 x3
  have k1:=Kept.setCell (p:=⟨w.heap.size+1,0,none⟩) (Kept.refl (fun q=>q=w.heap.size+1) ww) (fun _=>rfl) x0
  have k2:=Kept.setCell (p:=⟨w.heap.size+1,1,none⟩) k1 (fun _=>rfl) x1
  have k3:=Kept.setCell (p:=⟨w.heap.size+1,2,none⟩) k2 (fun _=>rfl) x2
  have k4:=Kept.setCell (p:=⟨w.heap.size+1,3,none⟩) k3 (fun _=>rfl) x3
  have h3' := k4.at h3 (fun e=>by omega)
  have s4:=setAt h3' 0 y
  have k5:=Kept.setCell (p:=⟨w.heap.size+1+1,0,none⟩) (Kept.refl (fun q=>q=w.heap.size+1+1) ((((ww.setCell ⟨w.heap.size+1,0,none⟩ x0).setCell ⟨w.heap.size+1,1,none⟩ x1).setCell ⟨w.heap.size+1,2,none⟩ x2).setCell ⟨w.heap.size+1,3,none⟩ x3)) (fun _=>rfl) y
  have s3' := k5.at s3 (fun e=>by omega)
  have kk:Kept (fun q=>q=w.heap.size+1∨q=w.heap.size+1+1) ww ((((((ww.setCell ⟨w.heap.size+1,0,none⟩ x0).setCell ⟨w.heap.size+1,1,none⟩ x1).setCell ⟨w.heap.size+1,2,none⟩ x2).setCell ⟨w.heap.size+1,3,none⟩ x3).setCell ⟨w.heap.size+1+1,0,none⟩ y)):=Kept.trans (k4.mono (fun _ _ e=>.inl e)) k5 (fun _ _ e=>.inr e)
  exact ⟨cellAt s3' 0,cellAt s3' 1,cellAt s3' 2,cellAt s3' 3,cellAt s4 0,kk,Kept.trans (KW.trans' hk) kk (fun i hi e=>by omega)⟩
 clear h
 have C1:=CS.out W1 KW
 cases hd:defB L n with
 | false=>
  have FIN:Hid (∀ ww v,Same0 w ww→FltAt ww [(80,0)] v→BldPost L R n w (.returned (.tuple #[zeroC,v])) ww):=fun ww v hk hf=>⟨hk,by rw [hd];exact ⟨v,rfl,hf⟩⟩
  have CD:Hid (∀ ww bt,Same0 W1 ww→Sg ww.heap.size ww bt L→Calls Tryz.prog 31 #[.pointer (some ⟨bt,0,none⟩),.int .i64 n] ww fun e w' => e=.returned (.bool false)∧Same0 ww w'):=fun ww bt hk hs=>by rw [← hd];exact tdef_any hs n
  clear hd
  go_enter Tryz.func9,Tryz.ntmps9
  go_upto_region 1 with fail
  rw [← hW1]
  clear hW1
  go_upto_region 4 with (first | (go_at_call 30;refine C1.mono ?_;rintro e w2 ⟨bt,rfl,hs2,k2⟩))
  obtain ⟨r0,_⟩:=RC.out w2 k2
  have C2:=CD.out w2 bt k2 hs2.out
  go_upto_region 5 with (first | (go_at_call 31;refine C2.mono ?_;rintro e w3 ⟨rfl,k3⟩))
  have k13:=k2.trans' k3
  have ka:Same0 W1 (w3.alloc (.cells #[.int .i64 80,.int .i64 0,.nilIface] 84)):=Kept.alloc k13 _
  obtain ⟨_,⟨q0,q1,q2,q3⟩,⟨f0,f1,f2,f3⟩,q4,f4⟩:=RC.out _ ka
  have PP:=PUT.out _ (.int .i64 0) (.int .i64 0) (.slice none 0 0) (.slice none 0 0) (.iface 82 (.pointer (some ⟨w3.heap.size,0,none⟩))) ka
  have PH:Hid _:=PP
  clear PP
  go_wp2_with fail
  obtain ⟨g0,g1,g2,g3,g4,kk,ks⟩:=PH.out
  have hf:=kk.at (heap_alloc_new w3 _) (fun e=>by have:=k13.size;omega)
  exact bodyPost_ret (v:=.tuple #[zeroC,.iface 82 (.pointer (some ⟨w3.heap.size,0,none⟩))]) (by simp [results,Tryz.results9,go_sem,g0,g1,g2,g3,g4]) rfl (FIN.out _ _ ks (.inr ⟨by omega,_,_,rfl,hf,rfl⟩))
 | true=>
  obtain ⟨s,hs,rfl⟩:∃ s:Nat,s<L.length∧n=(s:Int):=by
   by_cases hx:n<0∨(L.length:Int)≤n
   ·rw [defB_no hx] at hd;cases hd
   ·exact ⟨n.toNat,by omega,by omega⟩
  have CD:Hid (∀ ww bt,Same0 W1 ww→Sg ww.heap.size ww bt L→Calls Tryz.prog 31 #[.pointer (some ⟨bt,0,none⟩),.int .i64 (s:Int)] ww fun e w' => e=.returned (.bool true)∧Same0 ww w'):=fun ww bt hk hs=>by rw [← hd];exact tdef_any hs _
  have CR:Hid (∀ ww bt,Same0 W1 ww→Sg ww.heap.size ww bt L→Calls Tryz.prog 34 #[.pointer (some ⟨bt,0,none⟩),.pointer (some ⟨b,0,none⟩),.int .i64 (s:Int)] ww fun e w' => ∃ po pc ro rc,e=.returned (.agg #[.pointer (some ⟨bt,0,none⟩),.slice po (rootP L s).length pc,.slice ro (rootR L R s).length rc])∧Hid (NdIn w' L 2001 bt po pc (rootP L s) ro (rootR L R s))∧Same0 ww w'):=fun ww bt hk hg=>rootOf_any hg (HST.out ww (KW.trans' hk)) hs
  have CG:Hid (∀ ww bt po pc ro rc,NdIn ww L 2001 bt po pc (rootP L s) ro (rootR L R s)→Calls Tryz.prog 35 #[.agg #[.pointer (some ⟨bt,0,none⟩),.slice po (rootP L s).length pc,.slice ro (rootR L R s).length rc]] ww (TreeOut ww (treeF L R s))):=fun ww bt po pc ro rc hi=>tgrow_any L 2001 ww bt po pc _ ro rc _ hi
  cases ht:treeF L R s with
  | ok t=>
   rw [ht] at CG
   have CG2:Hid (∀ ww bt po pc ro rc,NdIn ww L 2001 bt po pc (rootP L s) ro (rootR L R s)→Calls Tryz.prog 35 #[.agg #[.pointer (some ⟨bt,0,none⟩),.slice po (rootP L s).length pc,.slice ro (rootR L R s).length rc]] ww fun e w' => ∃ tk tr tpo tpl tpc tko tkl tkc,e=.returned (.agg #[.int .i64 tk,.int .i64 tr,.slice tpo tpl tpc,.slice tko tkl tkc])∧Hid (CsB (fun b=>ww.heap.size≤b) w' 2001 (.agg #[.int .i64 tk,.int .i64 tr,.slice tpo tpl tpc,.slice tko tkl tkc]) t)∧Same0 ww w'):=fun ww bt po pc ro rc hi=>by
    refine (CG.out ww bt po pc ro rc hi).mono ?_
    rintro e w' ⟨v,rfl,h1,h2⟩
    obtain ⟨tk,tr,tpo,tpl,tpc,tko,tkl,tkc,rfl⟩:=h1.shape
    exact ⟨tk,tr,tpo,tpl,tpc,tko,tkl,tkc,rfl,h1,h2⟩
   have FIN:Hid (∀ ww v,Same0 w ww→CsB (fun b=>w.heap.size≤b) ww 2001 v t→BldPost L R (s:Int) w (.returned (.tuple #[v,.nilIface])) ww):=fun ww v hk hf=>⟨hk,by rw [if_pos hd];simp only [Int.toNat_natCast];rw [ht];exact ⟨v,rfl,hf⟩⟩
   clear hd CG ht
   go_enter_defers Tryz.func9,Tryz.ntmps9
   go_upto_region 1 with fail
   rw [← hW1]
   clear hW1
   go_upto_region 4 with (first | (go_at_call 30;refine C1.mono ?_;rintro e w2 ⟨bt,rfl,hs2,k2⟩))
   obtain ⟨r0,_⟩:=RC.out w2 k2
   have C2:=CD.out w2 bt k2 hs2.out
   go_upto_region 7 with (first | (go_at_call 31;refine C2.mono ?_;rintro e w3 ⟨rfl,k3⟩))
   have k13:=k2.trans' k3
   obtain ⟨r3,_⟩:=RC.out w3 k13
   have C3:=CR.out w3 bt k13 (sg_up (hs2.out.same k3) k3.size)
   go_wp2_with (first
    | (go_at_call 34;refine C3.mono ?_;rintro e w4 ⟨po,pc,ro,rc,rfl,hi,k4⟩;have C4:=CG2.out w4 bt po pc ro rc hi.out)
    | (go_at_call 35;refine C4.mono ?_;rintro e w5 ⟨tk,tr,tpo,tpl,tpc,tko,tkl,tkc,rfl,hcs,k5⟩;have k15:=(k13.trans' k4).trans' k5;obtain ⟨_,⟨q0,q1,q2,q3⟩,⟨f0,f1,f2,f3⟩,q4,f4⟩:=RC.out _ k15))
   have PH:Hid _:=PUT.out w5 (.int .i64 tk) (.int .i64 tr) (.slice tpo tpl tpc) (.slice tko tkl tkc) .nilIface k15
   refine leaves_cons (f:=32) (args:=#[.pointer (some ⟨w.heap.size,0,none⟩),.pointer (some ⟨w.heap.size+1+1,0,none⟩)]) (by simp) (by simp [go_sem]) ?_
   refine (catch_none _).mono ?_
   rintro e u' w'' ⟨rfl,rfl,rfl⟩
   obtain ⟨g0,g1,g2,g3,g4,kk,ks⟩:=PH.out
   have z4:=(k13.trans' k4).size
   simp [Leaves,settle,results,Tryz.results9,go_sem,g0,g1,g2,g3,g4]
   exact FIN.out _ _ ks (CsB.mono (fun b hb q=>by have:w4.heap.size≤b:=q;omega) (CsB.kept kk (fun b q e=>by have:w4.heap.size≤b:=q;omega) hcs.out))
  | error z=>
   rw [ht] at CG
   have hz:0≤z:=by
    refine growF_err (fun x hx=>?_) ht
    obtain ⟨y,hy,rfl⟩:=List.mem_map.1 hx
    obtain ⟨j,hj,rfl,_⟩:=rows_fact hok hy
    show (0:Int)≤(j:Int)
    omega
   have CG2:Hid (∀ ww bt po pc ro rc,NdIn ww L 2001 bt po pc (rootP L s) ro (rootR L R s)→Calls Tryz.prog 35 #[.agg #[.pointer (some ⟨bt,0,none⟩),.slice po (rootP L s).length pc,.slice ro (rootR L R s).length rc]] ww fun e w' => ∃ k,e=.panicked [{ v:=.iface 82 (.pointer (some ⟨k,0,none⟩)),recovered:=false }]∧Hid (w'.heap[k]? = some (.cells #[.int .i64 82,.int .i64 z,.nilIface] 84 (0,0)))∧Same0 ww w'):=fun ww bt po pc ro rc hi=>by
    refine (CG.out ww bt po pc ro rc hi).mono ?_
    rintro e w' ⟨⟨k,h1,h2⟩,h3⟩
    exact ⟨k,h1,h2,h3⟩
   have FIN:Hid (∀ ww v,Same0 w ww→FltAt ww [(81,(s:Int)),(82,z)] v→BldPost L R (s:Int) w (.returned (.tuple #[zeroC,v])) ww):=fun ww v hk hf=>⟨hk,by rw [if_pos hd];simp only [Int.toNat_natCast];rw [ht];exact ⟨v,rfl,hf⟩⟩
   clear hd CG ht
   go_enter_defers Tryz.func9,Tryz.ntmps9
   go_upto_region 1 with fail
   rw [← hW1]
   clear hW1
   go_upto_region 4 with (first | (go_at_call 30;refine C1.mono ?_;rintro e w2 ⟨bt,rfl,hs2,k2⟩))
   obtain ⟨r0,_⟩:=RC.out w2 k2
   have C2:=CD.out w2 bt k2 hs2.out
   go_upto_region 7 with (first | (go_at_call 31;refine C2.mono ?_;rintro e w3 ⟨rfl,k3⟩))
   have k13:=k2.trans' k3
   obtain ⟨r3,_⟩:=RC.out w3 k13
   have C3:=CR.out w3 bt k13 (sg_up (hs2.out.same k3) k3.size)
   go_wp2_with (first
    | (go_at_call 34;refine C3.mono ?_;rintro e w4 ⟨po,pc,ro,rc,rfl,hi,k4⟩;have C4:=CG2.out w4 bt po pc ro rc hi.out)
    | (go_at_call 35;refine C4.mono ?_;rintro e w5 ⟨k,rfl,hk,k5⟩))
   have k15:=(k13.trans' k4).trans' k5
   obtain ⟨x0,⟨q0,q1,q2,q3⟩,⟨f0,f1,f2,f3⟩,q4,f4⟩:=RC.out _ k15
   obtain ⟨b1,b2,b3⟩:=BK.out w5 k15
   refine leaves_cons (f:=32) (args:=#[.pointer (some ⟨w.heap.size,0,none⟩),.pointer (some ⟨w.heap.size+1+1,0,none⟩)]) (by simp) (by simp [go_sem]) ?_
   refine (catch_fork k w5 x0 b3 (by omega)).mono ?_
   rintro e u' w6 ⟨rfl,rfl,q,h1,h2,k6⟩
   have b2' := k6.at b2 (fun e=>by omega)
   have g0:=cellAt b2' 0
   have g1:=cellAt b2' 1
   have g2:=cellAt b2' 2
   have g3:=cellAt b2' 3
   have g4:=cellAt h2 0
   simp only [List.getElem?_toArray,List.getElem?_cons_zero,List.getElem?_cons_succ] at g0 g1 g2 g3 g4
   have hk6:=k6.at hk.out (fun e=>by subst e;have:=hk.out;rw [b3] at this;cases this)
   have ks:Same0 w w6:=Kept.trans (KW.trans' k15) k6 (fun i hi e=>by omega)
   simp [Leaves,settle,results,Tryz.results9,go_sem,g0,g1,g2,g3,g4]
   exact FIN.out _ _ ks (.inr ⟨by omega,q,_,rfl,h1,.inr ⟨by omega,k,_,rfl,hk6,rfl⟩⟩)
def SmT:(n:Nat)→Tr n→Prop
 | 0,_=>True
 | n+1,(k,r,p,l)=>l.length≤1000000000∧∀ i (h:i<l.length),SmT n l[i].2
def SameIH (n:Nat):Prop:=∀ (w:World) (a b:Value) (t:Tr n) (B B' : Nat→Prop),CsB B w n a t→CsB B' w n b t→SmT n t→Calls Tryz.prog 11 #[a,b] w fun e w' => e=.returned (.bool true)∧Same0 w w'
theorem sameB_self (p:List Int):sameB p p=true:=by simp [sameB]
set_option maxHeartbeats 8000000 in
theorem csame_step {n:Nat} (IH:SameIH n):SameIH (n+1):=by
 intro w va vb t B B' ha hb hsm
 obtain ⟨k,r,p,l⟩:=t
 obtain ⟨hl9,hsk⟩:=hsm
 obtain ⟨po,pc,ko,kc,rfl,a2,a3,a4,a5,a6⟩:=ha
 obtain ⟨po', pc', ko', kc', rfl,b2,b3,b4,b5,b6⟩:=hb
 obtain ⟨W1,hW1⟩:∃ W1,W1=(w.alloc (.cells #[.int .i64 k,.int .i64 r,.slice po p.length pc,.slice ko l.length kc] 35)).alloc (.cells #[.int .i64 k,.int .i64 r,.slice po' p.length pc', .slice ko' l.length kc'] 35):=⟨_,rfl⟩
 have KW:Same0 w W1:=by rw [hW1];exact ((Kept.refl _ w).alloc _).alloc _
 have BX:Hid (∀ ww,Same0 W1 ww→(ww.cell? ⟨w.heap.size,0,none⟩=some (.int .i64 k)∧ww.cell? ⟨w.heap.size,1,none⟩=some (.int .i64 r)∧ww.cell? ⟨w.heap.size,2,none⟩=some (.slice po p.length pc)∧ww.cell? ⟨w.heap.size,3,none⟩=some (.slice ko l.length kc))∧ww.cell? ⟨w.heap.size+1,0,none⟩=some (.int .i64 k)∧ww.cell? ⟨w.heap.size+1,1,none⟩=some (.int .i64 r)∧ww.cell? ⟨w.heap.size+1,2,none⟩=some (.slice po' p.length pc')∧ww.cell? ⟨w.heap.size+1,3,none⟩=some (.slice ko' l.length kc')):=fun ww hk=>by
  have h1:=hk.at0 (show W1.heap[w.heap.size]? = _ by rw [hW1];exact heap_alloc2_old _ _ _)
  have h2:=hk.at0 (show W1.heap[w.heap.size+1]? = _ by rw [hW1];exact heap_al_al _ _ _)
  exact ⟨⟨cellAt h1 0,cellAt h1 1,cellAt h1 2,cellAt h1 3⟩,cellAt h2 0,cellAt h2 1,cellAt h2 2,cellAt h2 3⟩
 have CP:=same_any (acap:=pc) (bcap:=pc') (a2.at'.same KW) (b2.at'.same KW) (by have:=a2.size;unfold maxLen;omega)
 rw [sameB_self] at CP
 have CI:Hid (∀ ww a b (t:Tr n) B B', CsB B ww n a t→CsB B' ww n b t→SmT n t→Calls Tryz.prog 11 #[a,b] ww fun e w' => e=.returned (.bool true)∧Same0 ww w'):=fun ww a b t B B' => IH ww a b t B B'
 have A6:Hid (l=[]∨∃ b off,ko=some ⟨b,off,none⟩∧B b∧b<w.heap.size∧∀ i (h:i<l.length),∃ c0 c1 c2 c3,w.cell? ⟨b,off+i * 5,none⟩=some (.int .i64 l[i].1)∧w.cell? ⟨b,off+i * 5+1,none⟩=some c0∧w.cell? ⟨b,off+i * 5+2,none⟩=some c1∧w.cell? ⟨b,off+i * 5+3,none⟩=some c2∧w.cell? ⟨b,off+i * 5+4,none⟩=some c3∧CsB B w n (.agg #[c0,c1,c2,c3]) l[i].2):=a6
 have B6:Hid (l=[]∨∃ b off,ko' = some ⟨b,off,none⟩∧B' b∧b<w.heap.size∧∀ i (h:i<l.length),∃ c0 c1 c2 c3,w.cell? ⟨b,off+i * 5,none⟩=some (.int .i64 l[i].1)∧w.cell? ⟨b,off+i * 5+1,none⟩=some c0∧w.cell? ⟨b,off+i * 5+2,none⟩=some c1∧w.cell? ⟨b,off+i * 5+3,none⟩=some c2∧w.cell? ⟨b,off+i * 5+4,none⟩=some c3∧CsB B' w n (.agg #[c0,c1,c2,c3]) l[i].2):=b6
 obtain ⟨⟨x0,x1,x2,x3⟩,y0,y1,y2,y3⟩:=BX.out W1 (Kept.refl _ _)
 have ek:(k == k)=true:=by simp
 have er:(r == r)=true:=by simp
 have el:((l.length:Int) == (l.length:Int))=true:=by simp
 have HSK:Hid (∀ i (h:i<l.length),SmT n l[i].2):=hsk
 clear a6 b6 IH a2 b2 a3 b3 a4 b4 hsk
 go_enter Tryz.func11,Tryz.ntmps11
 go_upto_region 1 with fail
 rw [← hW1]
 clear hW1
 go_upto_region 2 with (first | (go_at_call 39;refine CP.mono ?_;rintro e w2 ⟨rfl,k2⟩))
 obtain ⟨⟨u0,u1,u2,u3⟩,v0,v1,v2,v3⟩:=BX.out w2 k2
 clear x0 x1 x2 x3 y0 y1 y2 y3 CP
 go_wp2_with fail
 go_loopw [6] (fun i wr=>∃ j:Nat,j≤l.length∧i=.int .i64 (j:Int)∧Same0 W1 wr) (fun i _=>l.length-(intOf i).toNat)
 case atStart=>exact ⟨0,Nat.zero_le _,rfl,k2⟩
 case round=>
  clear u0 u1 u2 u3 v0 v1 v2 v3 k2
  obtain ⟨j,hj,rfl,hw⟩:=hrel
  obtain ⟨⟨u0,u1,u2,u3⟩,v0,v1,v2,v3⟩:=BX.out wr hw
  by_cases hlt:j<l.length
  ·rcases A6.out with e | ⟨ab,aoff,rfl,_,hab,hca⟩
   ·subst e;simp at hlt
   rcases B6.out with e | ⟨bb,boff,rfl,_,hbb,hcb⟩
   ·subst e;simp at hlt
   obtain ⟨c0,c1,c2,c3,p0,p1,p2,p3,p4,p5⟩:=hca j hlt
   obtain ⟨d0,d1,d2,d3,q0,q1,q2,q3,q4,q5⟩:=hcb j hlt
   obtain ⟨e0,e1,e2,e3,e4,e5,e6,e7,ea⟩:=p5.shape
   simp only [Value.agg.injEq,Array.mk.injEq,List.cons.injEq,and_true] at ea
   obtain ⟨rfl,rfl,rfl,rfl⟩:=ea
   obtain ⟨g0,g1,g2,g3,g4,g5,g6,g7,eb⟩:=q5.shape
   simp only [Value.agg.injEq,Array.mk.injEq,List.cons.injEq,and_true] at eb
   obtain ⟨rfl,rfl,rfl,rfl⟩:=eb
   have CELLS:Hid (∀ ww,Same0 W1 ww→(ww.cell? ⟨w.heap.size,3,none⟩=some (.slice (some ⟨ab,aoff,none⟩) l.length kc)∧ww.cell? ⟨w.heap.size+1,3,none⟩=some (.slice (some ⟨bb,boff,none⟩) l.length kc')∧ww.cell? ⟨ab,aoff+j * 5+1,none⟩=some (.int .i64 e0)∧ww.cell? ⟨ab,aoff+j * 5+2,none⟩=some (.int .i64 e1)∧ww.cell? ⟨ab,aoff+j * 5+3,none⟩=some (.slice e2 e3 e4)∧ww.cell? ⟨ab,aoff+j * 5+4,none⟩=some (.slice e5 e6 e7)∧ww.cell? ⟨bb,boff+j * 5+1,none⟩=some (.int .i64 g0)∧ww.cell? ⟨bb,boff+j * 5+2,none⟩=some (.int .i64 g1)∧ww.cell? ⟨bb,boff+j * 5+3,none⟩=some (.slice g2 g3 g4)∧ww.cell? ⟨bb,boff+j * 5+4,none⟩=some (.slice g5 g6 g7))∧ww.cell? ⟨ab,aoff+j * 5,none⟩=some (.int .i64 l[j].1)∧ww.cell? ⟨bb,boff+j * 5,none⟩=some (.int .i64 l[j].1)):=fun ww hk=>by
    obtain ⟨⟨_,_,_,m3⟩,_,_,_,n3⟩:=BX.out ww hk
    have kk:=KW.trans' hk
    have ta:∀ o v,w.cell? ⟨ab,o,none⟩=some v→ww.cell? ⟨ab,o,none⟩=some v:=fun o v e=>(kk.cell (p:=⟨ab,o,none⟩) hab (fun f=>f)).trans e
    have tb:∀ o v,w.cell? ⟨bb,o,none⟩=some v→ww.cell? ⟨bb,o,none⟩=some v:=fun o v e=>(kk.cell (p:=⟨bb,o,none⟩) hbb (fun f=>f)).trans e
    exact ⟨⟨m3,n3,ta _ _ p1,ta _ _ p2,ta _ _ p3,ta _ _ p4,tb _ _ q1,tb _ _ q2,tb _ _ q3,tb _ _ q4⟩,ta _ _ p0,tb _ _ q0⟩
   have WD:Same0 wr wr.drew:=(Kept.refl _ _).drew
   have CC:=CI.out wr.drew _ _ l[j].2 B B' (p5.same (KW.trans' (hw.trans' WD))) (q5.same (KW.trans' (hw.trans' WD))) (HSK.out j hlt)
   have i1:(0:Int)≤(j:Int):=by omega
   have i2:(j:Int)<(l.length:Int):=by omega
   have es:(l[j].1 == l[j].1)=true:=by simp
   have S0:=(CELLS.out wr hw).1
   clear hca hcb p0 p1 p2 p3 p4 p5 q0 q1 q2 q3 q4 q5 A6 B6
   go_upto_region 7 with fail
   go_cut [7] from 45 to 57 (fun s7 wc=>s7=.bool true∧Same0 wr wc)
   case first=>
    go_region_held3 (fun ww=>ww.cell? ⟨w.heap.size,3,none⟩=some (.slice (some ⟨ab,aoff,none⟩) l.length kc)∧ww.cell? ⟨w.heap.size+1,3,none⟩=some (.slice (some ⟨bb,boff,none⟩) l.length kc')∧ww.cell? ⟨ab,aoff+j * 5+1,none⟩=some (.int .i64 e0)∧ww.cell? ⟨ab,aoff+j * 5+2,none⟩=some (.int .i64 e1)∧ww.cell? ⟨ab,aoff+j * 5+3,none⟩=some (.slice e2 e3 e4)∧ww.cell? ⟨ab,aoff+j * 5+4,none⟩=some (.slice e5 e6 e7)∧ww.cell? ⟨bb,boff+j * 5+1,none⟩=some (.int .i64 g0)∧ww.cell? ⟨bb,boff+j * 5+2,none⟩=some (.int .i64 g1)∧ww.cell? ⟨bb,boff+j * 5+3,none⟩=some (.slice g2 g3 g4)∧ww.cell? ⟨bb,boff+j * 5+4,none⟩=some (.slice g5 g6 g7)) (first | exact S0 | exact (CELLS.out _ (hw.trans' kc9)).1) (first
     | (go_at_call 11;refine CC.mono ?_;rintro e w9 ⟨rfl,k9⟩;have kc9:=WD.trans' k9))
    all_goals
     go_wp2_with fail
     go_meet
     exact ⟨rfl,kc9⟩
   case rest=>
    obtain ⟨rfl,k9⟩:=hcut
    obtain ⟨w9,rfl⟩:∃ w9,w9=wc:=⟨_,rfl⟩
    obtain ⟨⟨m1,m2,_⟩,m3,m4⟩:=CELLS.out w9 (hw.trans' k9)
    have n1:w9.drew.cell? ⟨w.heap.size,3,none⟩=some (.slice (some ⟨ab,aoff,none⟩) l.length kc):=m1
    have n2:w9.drew.cell? ⟨w.heap.size+1,3,none⟩=some (.slice (some ⟨bb,boff,none⟩) l.length kc'):=m2
    have n3:w9.drew.cell? ⟨ab,aoff+j * 5,none⟩=some (.int .i64 l[j].1):=m3
    have n4:w9.drew.cell? ⟨bb,boff+j * 5,none⟩=some (.int .i64 l[j].1):=m4
    clear u0 u1 u2 u3 v0 v1 v2 v3 S0 CC
    go_wp2_with fail
    go_quiet (fail)
    go_wp2_with fail
    exact ⟨⟨j+1,by omega,by go_num,(hw.trans' k9).drewN _⟩,by simp [intOf];omega⟩
  ·obtain rfl:j=l.length:=by omega
   go_wp2_with fail
   go_ret
   exact ⟨rfl,KW.trans' hw⟩
theorem csame_any:∀ n,SameIH n
 | 0=>fun w a b t B B' h _ _=>h.elim
 | n+1=>csame_step (csame_any n)
set_option maxHeartbeats 2000000 in
theorem fsame_any {w:World} {k r nd:Int} {p:List Int} {po po' : Option Addr} {pc pc' : Nat} (ha:IntsAt w po p) (hb:IntsAt w po' p) (hl:p.length≤maxLen) :
  Calls Tryz.prog 17 #[.agg #[.int .i64 k,.int .i64 r,.slice po p.length pc,.int .i64 nd],.agg #[.int .i64 k,.int .i64 r,.slice po' p.length pc', .int .i64 nd]] w fun e w' => e=.returned (.bool true)∧Same0 w w' := by
 obtain ⟨W1,hW1⟩:∃ W1,W1=(w.alloc (.cells #[.int .i64 k,.int .i64 r,.slice po p.length pc,.int .i64 nd] 53)).alloc (.cells #[.int .i64 k,.int .i64 r,.slice po' p.length pc', .int .i64 nd] 53):=⟨_,rfl⟩
 have KW:Same0 w W1:=by rw [hW1];exact ((Kept.refl _ w).alloc _).alloc _
 have BX:Hid (∀ ww,Same0 W1 ww→(ww.cell? ⟨w.heap.size,0,none⟩=some (.int .i64 k)∧ww.cell? ⟨w.heap.size,1,none⟩=some (.int .i64 r)∧ww.cell? ⟨w.heap.size,2,none⟩=some (.slice po p.length pc)∧ww.cell? ⟨w.heap.size,3,none⟩=some (.int .i64 nd))∧ww.cell? ⟨w.heap.size+1,0,none⟩=some (.int .i64 k)∧ww.cell? ⟨w.heap.size+1,1,none⟩=some (.int .i64 r)∧ww.cell? ⟨w.heap.size+1,2,none⟩=some (.slice po' p.length pc')∧ww.cell? ⟨w.heap.size+1,3,none⟩=some (.int .i64 nd)):=fun ww hk=>by
  have h1:=hk.at0 (show W1.heap[w.heap.size]? = _ by rw [hW1];exact heap_alloc2_old _ _ _)
  have h2:=hk.at0 (show W1.heap[w.heap.size+1]? = _ by rw [hW1];exact heap_al_al _ _ _)
  exact ⟨⟨cellAt h1 0,cellAt h1 1,cellAt h1 2,cellAt h1 3⟩,cellAt h2 0,cellAt h2 1,cellAt h2 2,cellAt h2 3⟩
 have CP:=same_any (acap:=pc) (bcap:=pc') (ha.same KW) (hb.same KW) hl
 rw [sameB_self] at CP
 obtain ⟨⟨x0,x1,x2,x3⟩,y0,y1,y2,y3⟩:=BX.out W1 (Kept.refl _ _)
 have ek:(k == k)=true:=by simp
 have er:(r == r)=true:=by simp
 have en:(nd == nd)=true:=by simp
 clear ha hb
 go_enter Tryz.func17,Tryz.ntmps17
 go_upto_region 1 with fail
 rw [← hW1]
 clear hW1
 go_upto_region 2 with (first | (go_at_call 39;refine CP.mono ?_;rintro e w2 ⟨rfl,k2⟩))
 obtain ⟨⟨u0,u1,u2,u3⟩,v0,v1,v2,v3⟩:=BX.out w2 k2
 clear x0 x1 x2 x3 y0 y1 y2 y3 CP
 go_wp2_with fail
 go_ret
 exact ⟨by simp,KW.trans' k2⟩
abbrev L6:List Sym:=[⟨⟨#[122]⟩,0,false⟩,⟨⟨#[115]⟩,1,false⟩,⟨⟨#[97]⟩,0,false⟩,⟨⟨#[97,100,100]⟩,2,true⟩,⟨⟨#[102]⟩,3,true⟩,⟨⟨#[104]⟩,0,true⟩]
theorem nm8_z:nameB ⟨#[122]⟩=true:=by decide +kernel
theorem nm8_s:nameB ⟨#[115]⟩=true:=by decide +kernel
theorem nm8_a:nameB ⟨#[97]⟩=true:=by decide +kernel
theorem nm8_add:nameB ⟨#[97,100,100]⟩=true:=by decide +kernel
theorem nm8_f:nameB ⟨#[102]⟩=true:=by decide +kernel
theorem nm8_h:nameB ⟨#[104]⟩=true:=by decide +kernel
theorem madeL_aw8:madeL L6=L6:=by
 simp [madeL,addL,addErr,nm8_z,nm8_s,nm8_a,nm8_add,nm8_f,nm8_h,findI]
abbrev ru8a:Ru:=([3,0, -1],[-1])
abbrev ru8b:Ru:=([3,1, -1, -2],[1,3, -1, -2])
theorem aw8_a:Ans L6 [] [ru8a] []:=Ans.of_all (by decide +kernel)
theorem aw8_b:Ans L6 [ru8a] [ru8b] []:=Ans.of_all (by decide +kernel)
theorem aw8_R {R:List Ru} (h:StoredR L6 [ru8a,ru8b] [] R):R=[ru8a,ru8b]:=by
 rcases h with ⟨_,h⟩ | ⟨h,_⟩
 ·rcases h with ⟨_,h⟩ | ⟨h,_⟩
  ·exact h
  ·exact absurd aw8_b h
 ·exact absurd aw8_a h
def tree8 (n:Nat):Tr (n+1+1):=(2,0,[0],[(0,((1,0,[],[]):Int × Int × List Int × List (Int × Tr n))),(1,((1,1,[],[]):Int × Int × List Int × List (Int × Tr n)))])
theorem aw8_grow (n:Nat):growF L6 (n+1+1) (rootP L6 3) (rootR L6 [ru8a,ru8b] 3)=.ok (tree8 n):=by rfl
theorem aw8_tree:treeF L6 [ru8a,ru8b] 3=.ok (tree8 1999):=aw8_grow 1999
theorem aw8_small (n:Nat):SmT (n+1+1) (tree8 n):=by
 refine ⟨by simp,fun i hi=>?_⟩
 have hi' : i<2:=hi
 match i,hi' with
 | 0,_=>exact ⟨by simp,fun i hi=>absurd hi (by simp)⟩
 | 1,_=>exact ⟨by simp,fun i hi=>absurd hi (by simp)⟩
theorem aw8_lit (w:World) (n:Nat):CsB (fun _=>True) ((w.alloc (.cells #[.int .i64 0] 3)).alloc (.cells #[.int .i64 0,.int .i64 1,.int .i64 0,.slice none 0 0,.slice none 0 0,.int .i64 1,.int .i64 1,.int .i64 1,.slice none 0 0,.slice none 0 0] 76)) (n+1+1) (.agg #[.int .i64 2,.int .i64 0,.slice (some ⟨w.heap.size,0,none⟩) 1 1,.slice (some ⟨w.heap.size+1,0,none⟩) 2 2]) (tree8 n):=by
 have ka:Same0 (w.alloc (.cells #[.int .i64 0] 3)) ((w.alloc (.cells #[.int .i64 0] 3)).alloc (.cells #[.int .i64 0,.int .i64 1,.int .i64 0,.slice none 0 0,.slice none 0 0,.int .i64 1,.int .i64 1,.int .i64 1,.slice none 0 0,.slice none 0 0] 76)):=(Kept.refl _ _).alloc _
 have hb:=heap_al_al w (.cells #[.int .i64 0] 3) (.cells #[.int .i64 0,.int .i64 1,.int .i64 0,.slice none 0 0,.slice none 0 0,.int .i64 1,.int .i64 1,.int .i64 1,.slice none 0 0,.slice none 0 0] 76)
 refine ⟨_,1,_,2,rfl,(ints_arg w [0] 3 (by simp) rfl).same ka,.inr (fun _ _=>trivial),(fun e=>by cases e),Nat.le_refl _,.inr ⟨_,0,rfl,trivial,lt_of_at hb,fun i hi=>?_⟩⟩
 have hi' : i<2:=hi
 match i,hi' with
 | 0,_=>exact ⟨_,_,_,_,cellAt hb 0,cellAt hb 1,cellAt hb 2,cellAt hb 3,cellAt hb 4,leaf_cs _ _ _ _ _⟩
 | 1,_=>exact ⟨_,_,_,_,cellAt hb 5,cellAt hb 6,cellAt hb 7,cellAt hb 8,cellAt hb 9,leaf_cs _ _ _ _ _⟩
theorem syms_aw8 (w:World) (T:TypeId):SymsAt (w.alloc (.cells #[.string ⟨#[122]⟩,.int .i64 0,.bool false,.string ⟨#[115]⟩,.int .i64 1,.bool false,.string ⟨#[97]⟩,.int .i64 0,.bool false,.string ⟨#[97,100,100]⟩,.int .i64 2,.bool true,.string ⟨#[102]⟩,.int .i64 3,.bool true,.string ⟨#[104]⟩,.int .i64 0,.bool true] T)) (some ⟨w.heap.size,0,none⟩) 6 L6:=by
 refine ⟨rfl,.inr ⟨_,_,rfl,by simp,fun i hi=>?_⟩,?_⟩
 ·have hi' : i<6:=by simpa using hi
  rw [cellAt (heap_alloc_new w _),cellAt (heap_alloc_new w _),cellAt (heap_alloc_new w _)]
  match i,hi' with
  | 0,_=>exact ⟨rfl,rfl,rfl⟩
  | 1,_=>exact ⟨rfl,rfl,rfl⟩
  | 2,_=>exact ⟨rfl,rfl,rfl⟩
  | 3,_=>exact ⟨rfl,rfl,rfl⟩
  | 4,_=>exact ⟨rfl,rfl,rfl⟩
  | 5,_=>exact ⟨rfl,rfl,rfl⟩
 ·intro x hx
  simp at hx
  rcases hx with rfl | rfl | rfl | rfl | rfl | rfl <;> exact ⟨by decide +kernel,by decide +kernel⟩
theorem SymsAt.same8 {w w' : World} {ao:Option Addr} {len:Nat} {xs:List Sym} (h:SymsAt w ao len xs) (hk:Same0 w w'):SymsAt w' ao len xs:=by
 obtain ⟨h1,h2,h3⟩:=h
 refine ⟨h1,h2.imp id ?_,h3⟩
 rintro ⟨b,off,e,hb,hc⟩
 refine ⟨b,off,e,Nat.lt_of_lt_of_le hb hk.size,fun i hi=>?_⟩
 obtain ⟨c1,c2,c3⟩:=hc i hi
 exact ⟨(hk.cell (p:=⟨b,_,none⟩) hb (fun f=>f)).trans c1,(hk.cell (p:=⟨b,_,none⟩) hb (fun f=>f)).trans c2,(hk.cell (p:=⟨b,_,none⟩) hb (fun f=>f)).trans c3⟩
set_option maxHeartbeats 1000000 in
theorem plain8_any (w:World):Calls Tryz.prog 26 #[] w fun e w' => ∃ g g', e=.returned (.tuple #[.slice (some ⟨g,0,none⟩) 6 6,.slice (some ⟨g', 0,none⟩) 2 2])∧SymsAt w' (some ⟨g,0,none⟩) 6 L6∧RsAt w' (some ⟨g', 0,none⟩) [ru8a,ru8b]∧Same0 w w' := by
 have S:=syms_aw8 w 107
 have K:Same0 w (w.alloc (.cells #[.string ⟨#[122]⟩,.int .i64 0,.bool false,.string ⟨#[115]⟩,.int .i64 1,.bool false,.string ⟨#[97]⟩,.int .i64 0,.bool false,.string ⟨#[97,100,100]⟩,.int .i64 2,.bool true,.string ⟨#[102]⟩,.int .i64 3,.bool true,.string ⟨#[104]⟩,.int .i64 0,.bool true] 107)):=(Kept.refl _ w).alloc _
 have RR:=rs_two (w.alloc (.cells #[.string ⟨#[122]⟩,.int .i64 0,.bool false,.string ⟨#[115]⟩,.int .i64 1,.bool false,.string ⟨#[97]⟩,.int .i64 0,.bool false,.string ⟨#[97,100,100]⟩,.int .i64 2,.bool true,.string ⟨#[102]⟩,.int .i64 3,.bool true,.string ⟨#[104]⟩,.int .i64 0,.bool true] 107)) [3,0, -1] [-1] [3,1, -1, -2] [1,3, -1, -2] 3 3 3 3 63 (by decide) (by decide) (by decide) (by decide) rfl rfl rfl rfl rfl
 have HH:Hid _:=RR
 have HS:Hid _:=S
 clear RR S
 go_enter Tryz.func26,Tryz.ntmps26
 go_wp2
 go_ret2
 obtain ⟨r1,r2⟩:=HH.out
 simp only [World.size_alloc] at r1 r2
 exact ⟨_,_,rfl,SymsAt.same8 HS.out r2,r1,K.trans' r2⟩
theorem aw8_err (w:World):(binOp .eql 37 .nilIface .nilIface).run Tryz.prog w=.ok (.bool true) w:=by kernel_rfl
set_option maxHeartbeats 16000000 in
theorem awake8_any (w:World):Calls Tryz.prog 7 #[] w fun e w' => e=.returned (.bool true)∧Same0 w w' := by
 have hnn:=aw8_err
 have hpn:=ptr_nil
 have CP:=plain8_any w
 go_enter Tryz.func7,Tryz.ntmps7
 go_upto_region 2 with (first | (go_at_call 26;refine CP.mono ?_;rintro e w0 ⟨g,g', rfl,hsy,hru,K0⟩))
 have CS:=stored_any (cap:=6) (lc:=2) hsy (by decide) hru (by decide) (by decide)
 rw [madeL_aw8] at CS
 clear CP hsy hru
 go_upto_region 3 with (first | (go_at_call 8;refine CS.mono ?_;rintro e w1 ⟨bs,b,m,ro,rc,lv,vs,mv,ms,R,rfl,hT,hR⟩))
 obtain rfl:=aw8_R hR
 have K1:Same0 w w1:=K0.trans' hT.same
 have hst:=hT.st
 clear CS hR K0 hT
 have HST:Hid (∀ ww,Same0 w1 ww→StAt ww b bs L6 [ru8a,ru8b] lv vs):=fun ww hk=>hst.same hk
 have B1:Calls Tryz.prog 9 #[.pointer (some ⟨b,0,none⟩),.int .i64 3] w1 fun e w' => ∃ tk tr tpo tpl tpc tko tkl tkc,e=.returned (.tuple #[.agg #[.int .i64 tk,.int .i64 tr,.slice tpo tpl tpc,.slice tko tkl tkc],.nilIface])∧Hid (CsB (fun b=>w1.heap.size≤b) w' 2001 (.agg #[.int .i64 tk,.int .i64 tr,.slice tpo tpl tpc,.slice tko tkl tkc]) (tree8 1999))∧Same0 w1 w' := by
  refine (build_any hst 3).mono ?_
  rintro e w' ⟨hk,h⟩
  rw [if_pos (show defB L6 3=true by decide)] at h
  have e3:(3:Int).toNat=3:=rfl
  rw [e3,aw8_tree] at h
  obtain ⟨v,rfl,hc⟩:=h
  obtain ⟨tk,tr,tpo,tpl,tpc,tko,tkl,tkc,rfl⟩:=hc.shape
  exact ⟨tk,tr,tpo,tpl,tpc,tko,tkl,tkc,rfl,hc,hk⟩
 clear hst
 go_upto_region 6 with (first | (go_at_call 9;refine B1.mono ?_;rintro e w2 ⟨tk,tr,tpo,tpl,tpc,tko,tkl,tkc,rfl,hcs,k2⟩))
 obtain ⟨w3,hw3⟩:∃ w3,w3=w2.alloc (.cells #[.int .i64 tk,.int .i64 tr,.slice tpo tpl tpc,.slice tko tkl tkc] 35):=⟨_,rfl⟩
 have k3:Same0 w2 w3:=by rw [hw3];exact (Kept.refl _ _).alloc _
 have HC:Hid (∀ ww,Same0 w3 ww→ww.cell? ⟨w2.heap.size,0,none⟩=some (.int .i64 tk)∧ww.cell? ⟨w2.heap.size,1,none⟩=some (.int .i64 tr)∧ww.cell? ⟨w2.heap.size,2,none⟩=some (.slice tpo tpl tpc)∧ww.cell? ⟨w2.heap.size,3,none⟩=some (.slice tko tkl tkc)):=fun ww hk=>by
  have h0:w3.heap[w2.heap.size]? = some (.cells #[.int .i64 tk,.int .i64 tr,.slice tpo tpl tpc,.slice tko tkl tkc] 35 (0,0)):=by rw [hw3];exact heap_alloc_new w2 _
  have h1:=hk.at0 h0
  exact ⟨cellAt h1 0,cellAt h1 1,cellAt h1 2,cellAt h1 3⟩
 have HCS:Hid (∀ ww,Same0 w3 ww→CsB (fun b=>w1.heap.size≤b) ww 2001 (.agg #[.int .i64 tk,.int .i64 tr,.slice tpo tpl tpc,.slice tko tkl tkc]) (tree8 1999)):=fun ww hk=>(hcs.out.same k3).same hk
 have K3:Same0 w1 w3:=k2.trans' k3
 rw [← hw3]
 clear hw3 hcs B1 k2 k3
 have B2:Calls Tryz.prog 9 #[.pointer (some ⟨b,0,none⟩),.int .i64 0] w3 fun e w' => ∃ k,e=.returned (.tuple #[zeroC,.iface 82 (.pointer (some ⟨k,0,none⟩))])∧Hid (FltAt w' [(80,0)] (.iface 82 (.pointer (some ⟨k,0,none⟩))))∧Same0 w3 w' := by
  refine (build_any (HST.out w3 K3) 0).mono ?_
  rintro e w' ⟨hk,h⟩
  rw [if_neg (show ¬ defB L6 0=true by decide)] at h
  obtain ⟨v,rfl,hf⟩:=h
  obtain ⟨k,rfl⟩:∃ k,v=.iface 82 (.pointer (some ⟨k,0,none⟩)):=by
   rcases hf with ⟨q,_⟩ | ⟨_,k,u,e1,_⟩
   ·omega
   ·exact ⟨k,e1⟩
  exact ⟨k,rfl,hf,hk⟩
 go_upto_region 7 with (first | (go_at_call 9;refine B2.mono ?_;rintro e w4 ⟨kf,rfl,hf,k4⟩))
 obtain ⟨w5,hw5⟩:∃ w5,w5=w4.alloc zeroCs:=⟨_,rfl⟩
 have k5:Same0 w4 w5:=by rw [hw5];exact (Kept.refl _ _).alloc _
 have K5:Same0 w3 w5:=k4.trans' k5
 have HF:Hid (∀ ww,Same0 w5 ww→FltAt ww [(80,0)] (.iface 82 (.pointer (some ⟨kf,0,none⟩)))):=fun ww hk=>FltAt.same hk (FltAt.same k5 hf.out)
 rw [← hw5]
 clear hw5 hf B2 k4 k5
 obtain ⟨c0,c1,c2,c3⟩:=HC.out w5 K5
 obtain ⟨w6,hw6⟩:∃ w6,w6=w5.alloc (.cells #[.int .i64 3,.int .i64 3,.int .i64 0,.int .i64 0,.int .i64 2] 3):=⟨_,rfl⟩
 have k6:Same0 w5 w6:=by rw [hw6];exact (Kept.refl _ _).alloc _
 have B3:Calls Tryz.prog 15 #[.pointer (some ⟨bs,0,none⟩),.agg #[.int .i64 tk,.int .i64 tr,.slice tpo tpl tpc,.slice tko tkl tkc],.slice (some ⟨w5.heap.size,0,none⟩) 5 5,.int .i64 0] w6 fun e w' => ∃ po pc,e=.returned (.tuple #[.agg #[.int .i64 3,.int .i64 0,.slice po 1 pc,.int .i64 1],.int .i64 0])∧Hid (IntsAt w' po [0])∧Same0 w6 w' :=
  walk_demand (T:=[3,3,0,0,2]) (tc:=5) (a:=0) (q:=1) (HST.out w6 (K3.trans' (K5.trans' k6))).sig (HCS.out w6 (K5.trans' k6)) (by rw [hw6];exact ints_arg w5 [3,3,0,0,2] 3 (by decide) rfl) (by decide +kernel) (by decide) (by decide) (by decide +kernel) (by decide +kernel) (by decide +kernel)
 have K6:Same0 w3 w6:=K5.trans' k6
 have K56:Hid (Same0 w5 w6):=k6
 have HW6:Hid (w5.alloc (.cells #[.int .i64 3,.int .i64 3,.int .i64 0,.int .i64 0,.int .i64 2] 3)=w6):=hw6.symm
 have B3' : Calls Tryz.prog 15 #[.pointer (some ⟨bs,0,none⟩),.agg #[.int .i64 tk,.int .i64 tr,.slice tpo tpl tpc,.slice tko tkl tkc],.slice (some ⟨w5.heap.size,0,none⟩) 5 5,.int .i64 0] (w5.alloc (.cells #[.int .i64 3,.int .i64 3,.int .i64 0,.int .i64 0,.int .i64 2] 3)) fun e w' => ∃ po pc,e=.returned (.tuple #[.agg #[.int .i64 3,.int .i64 0,.slice po 1 pc,.int .i64 1],.int .i64 0])∧Hid (IntsAt w' po [0])∧Same0 w6 w' := by rw [HW6.out];exact B3
 clear hw6 k6 B3
 go_upto_region 8 with (first | (go_at_call 15;refine B3'.mono ?_;rintro e w7 ⟨po,pc,rfl,hpo,k7⟩))
 clear c0 c1 c2 c3 B3' HW6
 obtain ⟨w8,hw8⟩:∃ w8,w8=w7.alloc (.cells #[.int .i64 3,.int .i64 0,.slice po 1 pc,.int .i64 1] 53):=⟨_,rfl⟩
 have k8:Same0 w7 w8:=by rw [hw8];exact (Kept.refl _ _).alloc _
 have HFN:Hid (∀ ww,Same0 w8 ww→(ww.cell? ⟨w7.heap.size,0,none⟩=some (.int .i64 3)∧ww.cell? ⟨w7.heap.size,1,none⟩=some (.int .i64 0)∧ww.cell? ⟨w7.heap.size,2,none⟩=some (.slice po 1 pc)∧ww.cell? ⟨w7.heap.size,3,none⟩=some (.int .i64 1))∧IntsAt ww po [0]):=fun ww hk=>by
  have h0:w8.heap[w7.heap.size]? = some (.cells #[.int .i64 3,.int .i64 0,.slice po 1 pc,.int .i64 1] 53 (0,0)):=by rw [hw8];exact heap_alloc_new w7 _
  have h1:=hk.at0 h0
  exact ⟨⟨cellAt h1 0,cellAt h1 1,cellAt h1 2,cellAt h1 3⟩,(hpo.out.same k8).same hk⟩
 have K8:Same0 w3 w8:=(K6.trans' k7).trans' k8
 have K58:Same0 w5 w8:=by
  have:Same0 w5 w6:=K56.out
  exact (this.trans' k7).trans' k8
 rw [← hw8]
 clear hw8 hpo k7 k8 K6
 obtain ⟨c0,c1,c2,c3⟩:=HC.out w8 K8
 have ka:Same0 w8 ((w8.alloc (.cells #[.int .i64 0] 3)).alloc (.cells #[.int .i64 0,.int .i64 1,.int .i64 0,.slice none 0 0,.slice none 0 0,.int .i64 1,.int .i64 1,.int .i64 1,.slice none 0 0,.slice none 0 0] 76)):=((Kept.refl _ _).alloc _).alloc _
 have B4:=csame_any 2001 _ _ _ (tree8 1999) _ _ (HCS.out _ (K8.trans' ka)) (aw8_lit w8 1999) (aw8_small 1999)
 go_upto_region 9 with (first | (go_at_call 11;refine B4.mono ?_;rintro e w11 ⟨rfl,k11⟩))
 have K11:Same0 w8 w11:=ka.trans' k11
 clear c0 c1 c2 c3 B4 ka k11
 obtain ⟨⟨d0,d1,d2,d3⟩,_⟩:=HFN.out w11 K11
 have kb:Same0 w11 (w11.alloc (.cells #[.int .i64 0] 3)):=(Kept.refl _ _).alloc _
 have B5:=fsame_any (k:=3) (r:=0) (nd:=1) (p:=[0]) (pc:=pc) (pc' := 1) (HFN.out _ (K11.trans' kb)).2 (ints_new w11 [0] 3 rfl) (by decide)
 go_upto_region 10 with (first | (go_at_call 17;refine B5.mono ?_;rintro e w13 ⟨rfl,k13⟩))
 have K13:Same0 w8 w13:=K11.trans' (kb.trans' k13)
 clear d0 d1 d2 d3 B5 kb k13
 have kx:Same0 w13 (w13.alloc (.cells #[.int .i64 80,.int .i64 0] 78)):=(Kept.refl _ _).alloc _
 have B6:=same_flt (HF.out _ ((K58.trans' K13).trans' kx)) (wrs_new w13 [(80,0)] _ 78 rfl (fun i hi=>by have hi' : i<1:=hi;match i,hi' with | 0,_=>exact ⟨rfl,rfl⟩) 1 rfl) (by decide)
 have KF:Hid (∀ ww,Same0 (w13.alloc (.cells #[.int .i64 80,.int .i64 0] 78)) ww→Same0 w ww):=fun ww hk=>((((K1.trans' K3).trans' K8).trans' K13).trans' kx).trans' hk
 clear K1 K3 K8 K13 K58 K5
 go_wp2_with (first | (go_at_call 13;refine B6.mono ?_;rintro e w14 ⟨rfl,k14⟩))
 go_ret
 exact ⟨rfl,KF.out _ k14⟩
end Go.Proofs.YtfojfpnjnpkabaaGreat
