import Derived.Test.YtdlibbiaaejpmaaGreatTO14
import Derived.Deep.RegionLaw
import Derived.Deep.AppendLies
namespace Go.Proofs.YtdlibbiaaejpmaaGreat
set_option maxRecDepth 100000
set_option linter.unusedVariables false
open Go.RowKit
attribute [local go_sem ↓] Go.wp_at_zero Go.wp_at_succ
abbrev zeroC:Value:=.agg #[.int .i64 0,.int .i64 0,.slice none 0 0,.slice none 0 0]
def treeF (L:List Sym) (R:List Ru) (s:Nat):Except Int (Tr 2001):=growF L 2001 (rootP L s) (rootR L R s)
def BldPost (L:List Sym) (R:List Ru) (n:Int) (w:World) (e:Ending) (w' : World):Prop:=
 Same0 w w' ∧ if defB L n=true then
  (match treeF L R n.toNat with
  | .ok t=>∃ v,e=.returned (.tuple #[v,.nilIface])∧CsB (fun b=>w.heap.size≤b) w' 2001 v t
  | .error z=>∃ v,e=.returned (.tuple #[zeroC,v])∧FltAt w' [(81,n),(82,z)] v)
 else ∃ v,e=.returned (.tuple #[zeroC,v])∧FltAt w' [(80,0)] v
theorem ptr_nil (b:Nat) (w:World):(binOp .eql 26 (.pointer (some ⟨b,0,none⟩)) (.pointer none)).run Tryz.prog w=.ok (.bool false) w:=by kernel_rfl
theorem kidsN_err {α:Type} {has:Nat→Bool} {g:Nat→Except Int α} {z:Int}:∀ {k:Nat},kidsN has g k=.error z→∃ j,g j=.error z
 | 0,h=>by cases h
 | k+1,h=>by
  rw [kidsN] at h
  cases hk:kidsN has g k with
  | error e=>rw [hk] at h;cases h;exact kidsN_err hk
  | ok l=>
   rw [hk] at h
   simp only at h
   split at h
   ·cases hg:g k with
    | error e=>rw [hg] at h;cases h;exact ⟨k,hg⟩
    | ok t=>rw [hg] at h;cases h
   ·cases h
theorem growF_err {L:List Sym} {z:Int}:∀ {n:Nat} {P:List (List Int)} {R:List Rw},(∀ x∈R,0≤x.1)→growF L n P R=.error z→0≤z
 | 0,P,R,hR,h=>by rw [growF] at h;cases h;omega
 | n+1,P,R,hR,h=>by
  have hh:¬ R.length=0→0≤(R.headD (0,[],[])).1:=fun h0=>by
   cases R with
   | nil=>simp at h0
   | cons x r=>exact hR x (List.mem_cons_self ..)
  by_cases h0:R.length=0
  ·rw [growF_zero h0] at h;cases h
  ·cases hp:partN R P.length with
   | some c=>
    rw [growF_branch h0 hp] at h
    unfold BrF at h
    cases hk:KidsF L n P R c L.length with
    | ok l=>rw [hk] at h;cases h
    | error e=>
     rw [hk] at h
     cases h
     obtain ⟨j,hj⟩:=kidsN_err hk
     refine growF_err (fun x hx=>?_) hj
     obtain ⟨y,hy,rfl⟩:=List.mem_map.1 hx
     exact hR y (havR_mem hy).1
   | none=>
    by_cases h1:R.length=1
    ·rw [growF_leaf h1 hp] at h;cases h
    ·rw [growF_fork h0 h1 hp] at h;cases h;exact hh h0
set_option maxHeartbeats 16000000 in
theorem build_any {w:World} {b bs:Nat} {L:List Sym} {R:List Ru} {lv:Value} {vs:List Value} (h:StAt w b bs L R lv vs) (n:Int) :
  Calls Tryz.prog 9 #[.pointer (some ⟨b,0,none⟩),.int .i64 n] w (BldPost L R n w):=by
 have hpn:=ptr_nil
 have hle:=h.le
 have hok:=h.ok
 obtain ⟨W1,hW1⟩:∃ W1,W1=((w.alloc (.cells #[.int .i64 n] 3)).alloc zeroCs).alloc (.cells #[.nilIface] 37):=⟨_,rfl⟩
 have KW:Same0 w W1:=by rw [hW1];exact (((Kept.refl _ w).alloc _).alloc _).alloc _
 have ez:W1.heap.size=w.heap.size+1+1+1:=by rw [hW1];simp
 have BK:Hid (∀ ww,Same0 W1 ww→ww.heap[w.heap.size]? = some (.cells #[.int .i64 n] 3 (0,0))∧ww.heap[w.heap.size+1]? = some (.cells #[.int .i64 0,.int .i64 0,.slice none 0 0,.slice none 0 0] 35 (0,0))∧ww.heap[w.heap.size+1+1]? = some (.cells #[.nilIface] 37 (0,0))):=fun ww hk=>by
  have k1:Same0 (w.alloc (.cells #[.int .i64 n] 3)) W1:=by rw [hW1];exact ((Kept.refl _ _).alloc _).alloc _
  have k2:Same0 ((w.alloc (.cells #[.int .i64 n] 3)).alloc zeroCs) W1:=by rw [hW1];exact (Kept.refl _ _).alloc _
  have h3:=heap_al_al (w.alloc (.cells #[.int .i64 n] 3)) zeroCs (.cells #[.nilIface] 37)
  rw [World.size_alloc] at h3
  exact ⟨hk.at0 (k1.at0 (heap_alloc_new w _)),hk.at0 (k2.at0 (heap_al_al _ _ _)),hk.at0 (by rw [hW1];exact h3)⟩
 have RC:Hid (∀ ww,Same0 W1 ww→ww.cell? ⟨w.heap.size,0,none⟩=some (.int .i64 n)∧(ww.cell? ⟨w.heap.size+1,0,none⟩=some (.int .i64 0)∧ww.cell? ⟨w.heap.size+1,1,none⟩=some (.int .i64 0)∧ww.cell? ⟨w.heap.size+1,2,none⟩=some (.slice none 0 0)∧ww.cell? ⟨w.heap.size+1,3,none⟩=some (.slice none 0 0))∧(ww.frozen? ⟨w.heap.size+1,0,none⟩=false∧ww.frozen? ⟨w.heap.size+1,1,none⟩=false∧ww.frozen? ⟨w.heap.size+1,2,none⟩=false∧ww.frozen? ⟨w.heap.size+1,3,none⟩=false)∧ww.cell? ⟨w.heap.size+1+1,0,none⟩=some .nilIface∧ww.frozen? ⟨w.heap.size+1+1,0,none⟩=false):=fun ww hk=>by
  obtain ⟨h1,h2,h3⟩:=BK.out ww hk
  exact ⟨cellAt h1 0,⟨cellAt h2 0,cellAt h2 1,cellAt h2 2,cellAt h2 3⟩,⟨frozenAt h2 0,frozenAt h2 1,frozenAt h2 2,frozenAt h2 3⟩,cellAt h3 0,frozenAt h3 0⟩
 have CS:Hid (∀ ww,Same0 w ww→Calls Tryz.prog 37 #[.pointer (some ⟨b,0,none⟩)] ww fun e w' => ∃ bt,e=.returned (.pointer (some ⟨bt,0,none⟩))∧Hid (Sg w'.heap.size w' bt L)∧Same0 ww w'):=fun ww hk=>by
  refine (ssig_any (h.same hk)).mono ?_
  rintro e w' ⟨bt,rfl,hb,sv,mr,h1,h2,h3⟩
  exact ⟨bt,rfl,⟨⟨sv,mr,h1,fun k hk=>sig_foot_lt h1 k hk⟩,h.sig.2⟩,h3⟩
 have HST:Hid (∀ ww,Same0 w ww→StAt ww b bs L R lv vs):=fun ww hk=>h.same hk
 have PUT:Hid (∀ ww x0 x1 x2 x3 y,Same0 W1 ww→((((((ww.setCell ⟨w.heap.size+1,0,none⟩ x0).setCell ⟨w.heap.size+1,1,none⟩ x1).setCell ⟨w.heap.size+1,2,none⟩ x2).setCell ⟨w.heap.size+1,3,none⟩ x3).setCell ⟨w.heap.size+1+1,0,none⟩ y)).cell? ⟨w.heap.size+1,0,none⟩=some x0∧((((((ww.setCell ⟨w.heap.size+1,0,none⟩ x0).setCell ⟨w.heap.size+1,1,none⟩ x1).setCell ⟨w.heap.size+1,2,none⟩ x2).setCell ⟨w.heap.size+1,3,none⟩ x3).setCell ⟨w.heap.size+1+1,0,none⟩ y)).cell? ⟨w.heap.size+1,1,none⟩=some x1∧((((((ww.setCell ⟨w.heap.size+1,0,none⟩ x0).setCell ⟨w.heap.size+1,1,none⟩ x1).setCell ⟨w.heap.size+1,2,none⟩ x2).setCell ⟨w.heap.size+1,3,none⟩ x3).setCell ⟨w.heap.size+1+1,0,none⟩ y)).cell? ⟨w.heap.size+1,2,none⟩=some x2∧((((((ww.setCell ⟨w.heap.size+1,0,none⟩ x0).setCell ⟨w.heap.size+1,1,none⟩ x1).setCell ⟨w.heap.size+1,2,none⟩ x2).setCell ⟨w.heap.size+1,3,none⟩ x3).setCell ⟨w.heap.size+1+1,0,none⟩ y)).cell? ⟨w.heap.size+1,3,none⟩=some x3∧((((((ww.setCell ⟨w.heap.size+1,0,none⟩ x0).setCell ⟨w.heap.size+1,1,none⟩ x1).setCell ⟨w.heap.size+1,2,none⟩ x2).setCell ⟨w.heap.size+1,3,none⟩ x3).setCell ⟨w.heap.size+1+1,0,none⟩ y)).cell? ⟨w.heap.size+1+1,0,none⟩=some y∧Kept (fun q=>q=w.heap.size+1∨q=w.heap.size+1+1) ww ((((((ww.setCell ⟨w.heap.size+1,0,none⟩ x0).setCell ⟨w.heap.size+1,1,none⟩ x1).setCell ⟨w.heap.size+1,2,none⟩ x2).setCell ⟨w.heap.size+1,3,none⟩ x3).setCell ⟨w.heap.size+1+1,0,none⟩ y))∧Same0 w ((((((ww.setCell ⟨w.heap.size+1,0,none⟩ x0).setCell ⟨w.heap.size+1,1,none⟩ x1).setCell ⟨w.heap.size+1,2,none⟩ x2).setCell ⟨w.heap.size+1,3,none⟩ x3).setCell ⟨w.heap.size+1+1,0,none⟩ y))):=by
  intro ww x0 x1 x2 x3 y hk
  obtain ⟨h1,h2,h3⟩:=BK.out ww hk
  have s3:=setAt (setAt (setAt (setAt h2 0 x0) 1 x1) 2 x2) 3 x3
  have k1:=Kept.setCell (p:=⟨w.heap.size+1,0,none⟩) (Kept.refl (fun q=>q=w.heap.size+1) ww) (fun _=>rfl) x0
  have k2:=Kept.setCell (p:=⟨w.heap.size+1,1,none⟩) k1 (fun _=>rfl) x1
  have k3:=Kept.setCell (p:=⟨w.heap.size+1,2,none⟩) k2 (fun _=>rfl) x2
  have k4:=Kept.setCell (p:=⟨w.heap.size+1,3,none⟩) k3 (fun _=>rfl) x3
  have h3' := k4.at h3 (fun e=>by omega)
  have s4:=setAt h3' 0 y
  have k5:=Kept.setCell (p:=⟨w.heap.size+1+1,0,none⟩) (Kept.refl (fun q=>q=w.heap.size+1+1) ((((ww.setCell ⟨w.heap.size+1,0,none⟩ x0).setCell ⟨w.heap.size+1,1,none⟩ x1).setCell ⟨w.heap.size+1,2,none⟩ x2).setCell ⟨w.heap.size+1,3,none⟩ x3)) (fun _=>rfl) y
  have s3' := k5.at s3 (fun e=>by omega)
  have kk:Kept (fun q=>q=w.heap.size+1∨q=w.heap.size+1+1) ww ((((((ww.setCell ⟨w.heap.size+1,0,none⟩ x0).setCell ⟨w.heap.size+1,1,none⟩ x1).setCell ⟨w.heap.size+1,2,none⟩ x2).setCell ⟨w.heap.size+1,3,none⟩ x3).setCell ⟨w.heap.size+1+1,0,none⟩ y)):=Kept.trans (k4.mono (fun _ _ e=>.inl e)) k5 (fun _ _ e=>.inr e)
  exact ⟨cellAt s3' 0,cellAt s3' 1,cellAt s3' 2,cellAt s3' 3,cellAt s4 0,kk,Kept.trans (KW.trans' hk) kk (fun i hi e=>by omega)⟩
 clear h
 have C1:=CS.out W1 KW
 cases hd:defB L n with
 | false=>
  have FIN:Hid (∀ ww v,Same0 w ww→FltAt ww [(80,0)] v→BldPost L R n w (.returned (.tuple #[zeroC,v])) ww):=fun ww v hk hf=>⟨hk,by rw [hd];exact ⟨v,rfl,hf⟩⟩
  have CD:Hid (∀ ww bt,Same0 W1 ww→Sg ww.heap.size ww bt L→Calls Tryz.prog 38 #[.pointer (some ⟨bt,0,none⟩),.int .i64 n] ww fun e w' => e=.returned (.bool false)∧Same0 ww w'):=fun ww bt hk hs=>by rw [← hd];exact tdef_any hs n
  clear hd
  go_enter Tryz.func9,Tryz.ntmps9
  go_upto_region 1 with fail
  rw [← hW1]
  clear hW1
  go_upto_region 4 with (first | (go_at_call 37;refine C1.mono ?_;rintro e w2 ⟨bt,rfl,hs2,k2⟩))
  obtain ⟨r0,_⟩:=RC.out w2 k2
  have C2:=CD.out w2 bt k2 hs2.out
  go_upto_region 5 with (first | (go_at_call 38;refine C2.mono ?_;rintro e w3 ⟨rfl,k3⟩))
  have k13:=k2.trans' k3
  have ka:Same0 W1 (w3.alloc (.cells #[.int .i64 80,.int .i64 0,.nilIface] 100)):=Kept.alloc k13 _
  obtain ⟨_,⟨q0,q1,q2,q3⟩,⟨f0,f1,f2,f3⟩,q4,f4⟩:=RC.out _ ka
  have PP:=PUT.out _ (.int .i64 0) (.int .i64 0) (.slice none 0 0) (.slice none 0 0) (.iface 98 (.pointer (some ⟨w3.heap.size,0,none⟩))) ka
  have PH:Hid _:=PP
  clear PP
  go_wp2_with fail
  obtain ⟨g0,g1,g2,g3,g4,kk,ks⟩:=PH.out
  have hf:=kk.at (heap_alloc_new w3 _) (fun e=>by have:=k13.size;omega)
  exact bodyPost_ret (v:=.tuple #[zeroC,.iface 98 (.pointer (some ⟨w3.heap.size,0,none⟩))]) (by simp [results,Tryz.results9,go_sem,g0,g1,g2,g3,g4]) rfl (FIN.out _ _ ks (.inr ⟨by omega,_,_,rfl,hf,rfl⟩))
 | true=>
  obtain ⟨s,hs,rfl⟩:∃ s:Nat,s<L.length∧n=(s:Int):=by
   by_cases hx:n<0∨(L.length:Int)≤n
   ·rw [defB_no hx] at hd;cases hd
   ·exact ⟨n.toNat,by omega,by omega⟩
  have CD:Hid (∀ ww bt,Same0 W1 ww→Sg ww.heap.size ww bt L→Calls Tryz.prog 38 #[.pointer (some ⟨bt,0,none⟩),.int .i64 (s:Int)] ww fun e w' => e=.returned (.bool true)∧Same0 ww w'):=fun ww bt hk hs=>by rw [← hd];exact tdef_any hs _
  have CR:Hid (∀ ww bt,Same0 W1 ww→Sg ww.heap.size ww bt L→Calls Tryz.prog 41 #[.pointer (some ⟨bt,0,none⟩),.pointer (some ⟨b,0,none⟩),.int .i64 (s:Int)] ww fun e w' => ∃ po pc ro rc,e=.returned (.agg #[.pointer (some ⟨bt,0,none⟩),.slice po (rootP L s).length pc,.slice ro (rootR L R s).length rc])∧Hid (NdIn w' L 2001 bt po pc (rootP L s) ro (rootR L R s))∧Same0 ww w'):=fun ww bt hk hg=>rootOf_any hg (HST.out ww (KW.trans' hk)) hs
  have CG:Hid (∀ ww bt po pc ro rc,NdIn ww L 2001 bt po pc (rootP L s) ro (rootR L R s)→Calls Tryz.prog 42 #[.agg #[.pointer (some ⟨bt,0,none⟩),.slice po (rootP L s).length pc,.slice ro (rootR L R s).length rc]] ww (TreeOut ww (treeF L R s))):=fun ww bt po pc ro rc hi=>tgrow_any L 2001 ww bt po pc _ ro rc _ hi
  cases ht:treeF L R s with
  | ok t=>
   rw [ht] at CG
   have CG2:Hid (∀ ww bt po pc ro rc,NdIn ww L 2001 bt po pc (rootP L s) ro (rootR L R s)→Calls Tryz.prog 42 #[.agg #[.pointer (some ⟨bt,0,none⟩),.slice po (rootP L s).length pc,.slice ro (rootR L R s).length rc]] ww fun e w' => ∃ tk tr tpo tpl tpc tko tkl tkc,e=.returned (.agg #[.int .i64 tk,.int .i64 tr,.slice tpo tpl tpc,.slice tko tkl tkc])∧Hid (CsB (fun b=>ww.heap.size≤b) w' 2001 (.agg #[.int .i64 tk,.int .i64 tr,.slice tpo tpl tpc,.slice tko tkl tkc]) t)∧Same0 ww w'):=fun ww bt po pc ro rc hi=>by
    refine (CG.out ww bt po pc ro rc hi).mono ?_
    rintro e w' ⟨v,rfl,h1,h2⟩
    obtain ⟨tk,tr,tpo,tpl,tpc,tko,tkl,tkc,rfl⟩:=h1.shape
    exact ⟨tk,tr,tpo,tpl,tpc,tko,tkl,tkc,rfl,h1,h2⟩
   have FIN:Hid (∀ ww v,Same0 w ww→CsB (fun b=>w.heap.size≤b) ww 2001 v t→BldPost L R (s:Int) w (.returned (.tuple #[v,.nilIface])) ww):=fun ww v hk hf=>⟨hk,by rw [if_pos hd];simp only [Int.toNat_natCast];rw [ht];exact ⟨v,rfl,hf⟩⟩
   clear hd CG ht
   go_enter_defers Tryz.func9,Tryz.ntmps9
   go_upto_region 1 with fail
   rw [← hW1]
   clear hW1
   go_upto_region 4 with (first | (go_at_call 37;refine C1.mono ?_;rintro e w2 ⟨bt,rfl,hs2,k2⟩))
   obtain ⟨r0,_⟩:=RC.out w2 k2
   have C2:=CD.out w2 bt k2 hs2.out
   go_upto_region 7 with (first | (go_at_call 38;refine C2.mono ?_;rintro e w3 ⟨rfl,k3⟩))
   have k13:=k2.trans' k3
   obtain ⟨r3,_⟩:=RC.out w3 k13
   have C3:=CR.out w3 bt k13 (sg_up (hs2.out.same k3) k3.size)
   go_wp2_with (first
    | (go_at_call 41;refine C3.mono ?_;rintro e w4 ⟨po,pc,ro,rc,rfl,hi,k4⟩;have C4:=CG2.out w4 bt po pc ro rc hi.out)
    | (go_at_call 42;refine C4.mono ?_;rintro e w5 ⟨tk,tr,tpo,tpl,tpc,tko,tkl,tkc,rfl,hcs,k5⟩;have k15:=(k13.trans' k4).trans' k5;obtain ⟨_,⟨q0,q1,q2,q3⟩,⟨f0,f1,f2,f3⟩,q4,f4⟩:=RC.out _ k15))
   have PH:Hid _:=PUT.out w5 (.int .i64 tk) (.int .i64 tr) (.slice tpo tpl tpc) (.slice tko tkl tkc) .nilIface k15
   refine leaves_cons (f:=39) (args:=#[.pointer (some ⟨w.heap.size,0,none⟩),.pointer (some ⟨w.heap.size+1+1,0,none⟩)]) (by simp) (by simp [go_sem]) ?_
   refine (catch_none _).mono ?_
   rintro e u' w'' ⟨rfl,rfl,rfl⟩
   obtain ⟨g0,g1,g2,g3,g4,kk,ks⟩:=PH.out
   have z4:=(k13.trans' k4).size
   simp [Leaves,settle,results,Tryz.results9,go_sem,g0,g1,g2,g3,g4]
   exact FIN.out _ _ ks (CsB.mono (fun b hb q=>by have:w4.heap.size≤b:=q;omega) (CsB.kept kk (fun b q e=>by have:w4.heap.size≤b:=q;omega) hcs.out))
  | error z=>
   rw [ht] at CG
   have hz:0≤z:=by
    refine growF_err (fun x hx=>?_) ht
    obtain ⟨y,hy,rfl⟩:=List.mem_map.1 hx
    obtain ⟨j,hj,rfl,_⟩:=rows_fact hok hy
    show (0:Int)≤(j:Int)
    omega
   have CG2:Hid (∀ ww bt po pc ro rc,NdIn ww L 2001 bt po pc (rootP L s) ro (rootR L R s)→Calls Tryz.prog 42 #[.agg #[.pointer (some ⟨bt,0,none⟩),.slice po (rootP L s).length pc,.slice ro (rootR L R s).length rc]] ww fun e w' => ∃ k,e=.panicked [{ v:=.iface 98 (.pointer (some ⟨k,0,none⟩)),recovered:=false }]∧Hid (w'.heap[k]? = some (.cells #[.int .i64 82,.int .i64 z,.nilIface] 100 (0,0)))∧Same0 ww w'):=fun ww bt po pc ro rc hi=>by
    refine (CG.out ww bt po pc ro rc hi).mono ?_
    rintro e w' ⟨⟨k,h1,h2⟩,h3⟩
    exact ⟨k,h1,h2,h3⟩
   have FIN:Hid (∀ ww v,Same0 w ww→FltAt ww [(81,(s:Int)),(82,z)] v→BldPost L R (s:Int) w (.returned (.tuple #[zeroC,v])) ww):=fun ww v hk hf=>⟨hk,by rw [if_pos hd];simp only [Int.toNat_natCast];rw [ht];exact ⟨v,rfl,hf⟩⟩
   clear hd CG ht
   go_enter_defers Tryz.func9,Tryz.ntmps9
   go_upto_region 1 with fail
   rw [← hW1]
   clear hW1
   go_upto_region 4 with (first | (go_at_call 37;refine C1.mono ?_;rintro e w2 ⟨bt,rfl,hs2,k2⟩))
   obtain ⟨r0,_⟩:=RC.out w2 k2
   have C2:=CD.out w2 bt k2 hs2.out
   go_upto_region 7 with (first | (go_at_call 38;refine C2.mono ?_;rintro e w3 ⟨rfl,k3⟩))
   have k13:=k2.trans' k3
   obtain ⟨r3,_⟩:=RC.out w3 k13
   have C3:=CR.out w3 bt k13 (sg_up (hs2.out.same k3) k3.size)
   go_wp2_with (first
    | (go_at_call 41;refine C3.mono ?_;rintro e w4 ⟨po,pc,ro,rc,rfl,hi,k4⟩;have C4:=CG2.out w4 bt po pc ro rc hi.out)
    | (go_at_call 42;refine C4.mono ?_;rintro e w5 ⟨k,rfl,hk,k5⟩))
   have k15:=(k13.trans' k4).trans' k5
   obtain ⟨x0,⟨q0,q1,q2,q3⟩,⟨f0,f1,f2,f3⟩,q4,f4⟩:=RC.out _ k15
   obtain ⟨b1,b2,b3⟩:=BK.out w5 k15
   refine leaves_cons (f:=39) (args:=#[.pointer (some ⟨w.heap.size,0,none⟩),.pointer (some ⟨w.heap.size+1+1,0,none⟩)]) (by simp) (by simp [go_sem]) ?_
   refine (catch_fork k w5 x0 b3 (by omega)).mono ?_
   rintro e u' w6 ⟨rfl,rfl,q,h1,h2,k6⟩
   have b2' := k6.at b2 (fun e=>by omega)
   have g0:=cellAt b2' 0
   have g1:=cellAt b2' 1
   have g2:=cellAt b2' 2
   have g3:=cellAt b2' 3
   have g4:=cellAt h2 0
   simp only [List.getElem?_toArray,List.getElem?_cons_zero,List.getElem?_cons_succ] at g0 g1 g2 g3 g4
   have hk6:=k6.at hk.out (fun e=>by subst e;have:=hk.out;rw [b3] at this;cases this)
   have ks:Same0 w w6:=Kept.trans (KW.trans' k15) k6 (fun i hi e=>by omega)
   simp [Leaves,settle,results,Tryz.results9,go_sem,g0,g1,g2,g3,g4]
   exact FIN.out _ _ ks (.inr ⟨by omega,q,_,rfl,h1,.inr ⟨by omega,k,_,rfl,hk6,rfl⟩⟩)
structure Lent7 (base:Nat) (w:World) (v:Value) (l:List Ru) (k:Nat) (vs:List Value) (f:Nat→Nat):Prop where
 row:w.ownsRow base 49 2 v k vs
 le:k≤l.length
 lo:∀ i,i<k * 2→base≤f i∧f i<w.heap.size
 up:∀ i j,i<j→j<k * 2→f i<f j
 one:∀ i (h:i<l.length),i<k→vs[i * 2]? = some (.slice (some ⟨f (i * 2),0,none⟩) l[i].1.length (l[i].1.length+1))∧Row base w (.slice (some ⟨f (i * 2),0,none⟩) (l[i].1.length+1) (l[i].1.length+1)) (l[i].1 ++ [77])
 two:∀ i (h:i<l.length),i<k→vs[i * 2+1]? = some (.slice (some ⟨f (i * 2+1),0,none⟩) l[i].2.length (l[i].2.length+1))∧Row base w (.slice (some ⟨f (i * 2+1),0,none⟩) (l[i].2.length+1) (l[i].2.length+1)) (l[i].2 ++ [78])
theorem Lent7.nil (base:Nat) (w:World) (l:List Ru):Lent7 base w (.slice none 0 0) l 0 [] (fun i=>i):=
 ⟨World.ownsRow_nil _ _ _ _,Nat.zero_le _,fun i h=>absurd h (by omega),fun i j _ h=>absurd h (by omega),fun i _ h=>absurd h (by omega),fun i _ h=>absurd h (by omega)⟩
theorem Row.beside7 {base b2:Nat} {wd w9:World} {v1 v:Value} {xs:List Int} {k:Nat} {vs:List Value} (r:Row b2 wd v1 xs) (hrow:wd.ownsRow base 49 2 v k vs) (k9:Kept (fun q=>v.ownBlock=some q) wd w9):Row b2 w9 v1 xs:=by
 refine k9.row r (fun q e hq=>?_)
 rcases r.2 with ⟨h0,_⟩ | ⟨g', c', cur,h1,_,hg,_⟩
 ·subst h0;simp [Value.ownBlock] at e
 ·subst h1
  simp only [Value.ownBlock,Option.some.injEq] at e
  subst e
  rcases hrow.2 with ⟨h0,_⟩ | ⟨g2,c2,cur2,h2,_,hg2,_⟩
  ·subst h0;simp [Value.ownBlock] at hq
  ·subst h2
   simp only [Value.ownBlock,Option.some.injEq] at hq
   subst hq
   rw [hg] at hg2
   cases hg2
theorem Lent7.more {base:Nat} {wr wd w9:World} {v:Value} {l:List Ru} {k:Nat} {vs:List Value} {f:Nat→Nat} {g g' gg cap:Nat} (h:Lent7 base wr v l k vs f) (hk:k<l.length) (s:Same0 wr wd) (hb:base≤g) (h1:wr.heap.size≤g) (h2:g<g') (h3:g' < wd.heap.size)
  (r1:Row base wd (.slice (some ⟨g,0,none⟩) (l[k].1.length+1) (l[k].1.length+1)) (l[k].1 ++ [77])) (r2:Row base wd (.slice (some ⟨g', 0,none⟩) (l[k].2.length+1) (l[k].2.length+1)) (l[k].2 ++ [78]))
  (r9:w9.ownsRow base 49 2 (.slice (some ⟨gg,0,none⟩) (k+1) cap) (k+1) (vs ++ [.slice (some ⟨g,0,none⟩) l[k].1.length (l[k].1.length+1),.slice (some ⟨g', 0,none⟩) l[k].2.length (l[k].2.length+1)])) (k9:Kept (fun q=>v.ownBlock=some q) wd w9) :
  Lent7 base w9 (.slice (some ⟨gg,0,none⟩) (k+1) cap) l (k+1) (vs ++ [.slice (some ⟨g,0,none⟩) l[k].1.length (l[k].1.length+1),.slice (some ⟨g', 0,none⟩) l[k].2.length (l[k].2.length+1)]) (fun i=>if i<k * 2 then f i else if i=k * 2 then g else g'):=by
 have hrow:=s.row h.row (fun _ _ f=>f)
 have hz:=s.size
 have hz9:=k9.size
 have hvs:vs.length=k * 2:=h.row.1
 refine ⟨r9,hk,fun i hi=>?_,fun i j hij hj=>?_,fun i hi hik=>?_,fun i hi hik=>?_⟩
 ·split
  ·rename_i q;have:=h.lo i q;omega
  ·split <;> omega
 ·by_cases c1:j<k * 2
  ·rw [if_pos c1,if_pos (by omega)];exact h.up i j hij c1
  ·rw [if_neg c1]
   by_cases c2:i<k * 2
   ·rw [if_pos c2]
    have:=h.lo i c2
    split <;> omega
   ·rw [if_neg c2,if_pos (by omega),if_neg (by omega)];exact h2
 ·by_cases c:i<k
  ·obtain ⟨a,b⟩:=h.one i hi c
   rw [if_pos (by omega),List.getElem?_append_left (by omega)]
   exact ⟨a,Row.beside7 (s.row b (fun _ _ f=>f)) hrow k9⟩
  ·obtain rfl:i=k:=by omega
   rw [if_neg (by omega),if_pos rfl,List.getElem?_append_right (by omega),hvs]
   exact ⟨by simp,Row.beside7 r1 hrow k9⟩
 ·by_cases c:i<k
  ·obtain ⟨a,b⟩:=h.two i hi c
   rw [if_pos (by omega),List.getElem?_append_left (by omega)]
   exact ⟨a,Row.beside7 (s.row b (fun _ _ f=>f)) hrow k9⟩
  ·obtain rfl:i=k:=by omega
   rw [if_neg (by omega),if_neg (by omega),List.getElem?_append_right (by omega),hvs]
   exact ⟨by simp,Row.beside7 r2 hrow k9⟩
theorem Lent7.rs {base:Nat} {w:World} {v:Value} {l:List Ru} {vs:List Value} {f:Nat→Nat} (h:Lent7 base w v l l.length vs f) (hs:∀ x∈l,x.1.length * 8≤140737488351232∧x.2.length * 8≤140737488351232):∃ vo vc,v=.slice vo l.length vc∧RsAt w vo l∧(0<l.length→∃ gv,vo=some ⟨gv,0,none⟩):=by
 rcases h.row.2 with ⟨rfl,h0⟩ | ⟨g,cap,cur,rfl,hb,hg,h1,h2,h3,h4⟩
 ·have:l=[]:=List.eq_nil_of_length_eq_zero (by omega)
  subst this
  exact ⟨none,0,rfl,.inl rfl,fun h=>absurd h (by simp)⟩
 ·refine ⟨some ⟨g,0,none⟩,cap,rfl,.inr ⟨g,0,rfl,lt_of_at hg,fun i hi=>?_⟩,fun _=>⟨g,rfl⟩⟩
  obtain ⟨a1,a2⟩:=h.one i hi hi
  obtain ⟨b1,b2⟩:=h.two i hi hi
  have hx:=hs _ (List.getElem_mem hi)
  rw [Nat.zero_add]
  exact ⟨_,_,_,_,(h.row.cellAt (i * 2) (by omega)).trans a1,(h.row.cellAt (i * 2+1) (by omega)).trans b1,⟨row_prefix a2,by omega,fun e=>(by cases e),hx.1⟩,⟨row_prefix b2,by omega,fun e=>(by cases e),hx.2⟩⟩
structure Left7 (base:Nat) (w:World) (gv:Nat) (l:List Ru) (k:Nat) (f:Nat→Nat):Prop where
 blk:∃ cur,w.heap[gv]? = some (.cells cur 49 (0,0))∧l.length * 2≤cur.size∧∀ i (h:i<l.length),k≤i→cur[i * 2]? = some (.slice (some ⟨f (i * 2),0,none⟩) l[i].1.length (l[i].1.length+1))∧cur[i * 2+1]? = some (.slice (some ⟨f (i * 2+1),0,none⟩) l[i].2.length (l[i].2.length+1))
 ge:base≤gv∧∀ i,i<l.length * 2→base≤f i
 up:∀ i j,i<j→j<l.length * 2→f i<f j
 one:∀ i (h:i<l.length),k≤i→Row base w (.slice (some ⟨f (i * 2),0,none⟩) (l[i].1.length+1) (l[i].1.length+1)) (l[i].1 ++ [77])
 two:∀ i (h:i<l.length),k≤i→Row base w (.slice (some ⟨f (i * 2+1),0,none⟩) (l[i].2.length+1) (l[i].2.length+1)) (l[i].2 ++ [78])
theorem Left7.of {base:Nat} {w:World} {gv vc:Nat} {l:List Ru} {vs:List Value} {f:Nat→Nat} (h:Lent7 base w (.slice (some ⟨gv,0,none⟩) l.length vc) l l.length vs f):Left7 base w gv l 0 f:=by
 rcases h.row.2 with ⟨e,h0⟩ | ⟨g,cap,cur,e,hb,hg,h1,h2,h3,h4⟩
 ·cases e
 ·simp only [Value.slice.injEq,Option.some.injEq,Addr.mk.injEq] at e
  obtain ⟨⟨rfl,_⟩,_,rfl⟩:=e
  have hv:∀ j u,vs[j]? = some u→j<l.length * 2→cur[j]? = some u:=fun j u hu hj=>by
   rw [← h4,List.getElem?_take_of_lt hj] at hu
   simpa using hu
  exact ⟨⟨cur,hg,by omega,fun i hi _=>⟨hv _ _ (h.one i hi hi).1 (by omega),hv _ _ (h.two i hi hi).1 (by omega)⟩⟩,⟨hb,fun i hi=>(h.lo i hi).1⟩,h.up,fun i hi _=>(h.one i hi hi).2,fun i hi _=>(h.two i hi hi).2⟩
theorem Left7.next {base:Nat} {w w' : World} {gv:Nat} {l:List Ru} {k:Nat} {f:Nat→Nat} {A B:Value} (h:Left7 base w gv l k f) (hk:k<l.length) (hw:Kept (fun q=>q=f (k * 2)∨q=f (k * 2+1)) w w') :
  Left7 base ((w'.setCell ⟨gv,k * 2,none⟩ A).setCell ⟨gv,k * 2+1,none⟩ B) gv l (k+1) f:=by
 obtain ⟨cur,hc,hn,he⟩:=h.blk
 have num:∀ i (hi:i<l.length),k≤i→∃ c1 c2,w.heap[f (i * 2)]? = some (.cells c1 3 (0,0))∧w.heap[f (i * 2+1)]? = some (.cells c2 3 (0,0)):=fun i hi hki=>by
  rcases (h.one i hi hki).2 with ⟨e,_⟩ | ⟨g,_,c1,e,_,hg,_⟩
  ·cases e
  ·rcases (h.two i hi hki).2 with ⟨e2,_⟩ | ⟨g2,_,c2,e2,_,hg2,_⟩
   ·cases e2
   ·simp only [Value.slice.injEq,Option.some.injEq,Addr.mk.injEq] at e e2
    obtain ⟨⟨rfl,_⟩,_⟩:=e
    obtain ⟨⟨rfl,_⟩,_⟩:=e2
    exact ⟨c1,c2,hg,hg2⟩
 have hgv:∀ i (hi:i<l.length),k≤i→gv≠f (i * 2)∧gv≠f (i * 2+1):=fun i hi hki=>by
  obtain ⟨c1,c2,e1,e2⟩:=num i hi hki
  exact ⟨fun e=>(by rw [← e,hc] at e1;cases e1),fun e=>(by rw [← e,hc] at e2;cases e2)⟩
 have hc' := hw.at hc (fun e=>by have:=hgv k hk (Nat.le_refl _);omega)
 have ks:Kept (fun q=>q=gv) w' ((w'.setCell ⟨gv,k * 2,none⟩ A).setCell ⟨gv,k * 2+1,none⟩ B):=Kept.setCell (p:=⟨gv,k * 2+1,none⟩) (Kept.setCell (p:=⟨gv,k * 2,none⟩) (Kept.refl (fun q=>q=gv) w') (fun _=>rfl) A) (fun _=>rfl) B
 refine ⟨⟨_,setAt (setAt hc' _ _) _ _,by simpa using hn,fun i hi hki=>?_⟩,h.ge,h.up,fun i hi hki=>?_,fun i hi hki=>?_⟩
 ·obtain ⟨e1,e2⟩:=he i hi (by omega)
  rw [Array.getElem?_setIfInBounds_ne (by omega),Array.getElem?_setIfInBounds_ne (by omega),Array.getElem?_setIfInBounds_ne (by omega),Array.getElem?_setIfInBounds_ne (by omega)]
  exact ⟨e1,e2⟩
 ·have u1:=h.up (k * 2) (i * 2) (by omega) (by omega)
  have u2:=h.up (k * 2+1) (i * 2) (by omega) (by omega)
  have:=hgv i hi (by omega)
  exact ks.row (hw.row (h.one i hi (by omega)) (fun q e=>by simp only [Value.ownBlock,Option.some.injEq] at e;omega)) (fun q e=>by simp only [Value.ownBlock,Option.some.injEq] at e;omega)
 ·have u1:=h.up (k * 2) (i * 2+1) (by omega) (by omega)
  have u2:=h.up (k * 2+1) (i * 2+1) (by omega) (by omega)
  have:=hgv i hi (by omega)
  exact ks.row (hw.row (h.two i hi (by omega)) (fun q e=>by simp only [Value.ownBlock,Option.some.injEq] at e;omega)) (fun q e=>by simp only [Value.ownBlock,Option.some.injEq] at e;omega)
theorem step_ownT {wb W : World} {ops : Array Oper} {o : Oper} {a : Act} {K : Act → World → Prop} {Q : Exit → Act → World → Prop} {E : Prop} (hgd : o.guard = none) (s x : Operand)
    (ho : o.op = .call { callee := .builtin .append, args := #[s, x], argTypes := #[47, 47] })
    (B : Nat) (hs : a.eval s = .slice (some ⟨B, 0, none⟩) 0 0) (ys : List Int) (ad : Addr) (c : Nat) (hx : a.eval x = .slice (some ad) ys.length c)
    (hW : Same0 wb W) (hB : W.heap[B]? = some (.cells #[] 3 (0, 0))) (hb : wb.heap.size ≤ B) (hy : IntsAt wb (some ad) ys) (hn : 0 < ys.length) (hsz : ys.length ≤ 2000)
    (h : ∀ g cap w', TmAt w' g cap ys → wb.heap.size ≤ g → Same0 wb w' → (∀ g2 c2 zs, TmAt W g2 c2 zs → 0 < zs.length → TmAt w' g2 c2 zs) → (∀ q o, q ≠ B → W.heap[q]? = some o → w'.heap[q]? = some o) → K (a.put o.dst (.slice (some ⟨g, 0, none⟩) ys.length cap)) w') :
    if Region.wanted o (yielded ops a.tmps) = true then Oper.wp Tryz.prog o a W K Q else E := by
  obtain ⟨i, hi, hz0, hz1, hz2⟩ := info_parts info_intT
  have hBl := lt_of_at hB
  refine step_append_lies _ hgd s x 47 ho wb.heap.size 3 i _ 1 8 Tryz.underlying47 hi hz0 hz1 hz2 rfl (by decide) (.slice (some ⟨B, 0, none⟩) 0 0) 0 [] hs ⟨rfl, .inr ⟨B, 0, #[], rfl, hb, hB, Nat.le_refl _, by unfold maxLen; omega, rfl, rfl⟩⟩ ad ys.length c (iv ys) hx (by rw [iv_length]; omega) (fun j u hj => ?_) (iv_oneCell ys) hn (by unfold maxLen; omega) (by omega) hW.size W.heap.size rfl ?_
  · obtain ⟨ad', e, hc⟩ := (hy.same hW).src (by have := (List.getElem?_eq_some_iff.1 hj).1; omega)
    cases e
    exact hc j u hj
  · intro g cap w' hown hgrow hat hlt
    have k : Kept (fun k => k = B) W w' := Kept.grown (Kept.refl _ W) hgrow (fun _ e _ => by simp only [Value.ownBlock, Option.some.injEq] at e; exact e.symm)
    simp only [Nat.zero_add, List.nil_append] at hown ⊢
    refine h g cap w' ?_ (by rcases hat with e | e; · simp only [Value.ownBlock, Option.some.injEq] at e; omega
                             · have := hW.size; omega) (hW.trans (Kept.mono k (fun i hi e => e)) (fun i hi e => by omega)) (fun g2 c2 zs ht hz => ?_) (fun q o hq ho => k.at ho hq)
    · refine ⟨hown.1, .inr ?_⟩
      rcases hown.2 with ⟨e, _⟩ | ⟨g', c', cur, e, _, r⟩
      · cases e
      · cases e
        exact ⟨g, cap, cur, rfl, Nat.le_refl _, r⟩
    · refine k.row ht (fun q e hq => ?_)
      rcases ht.2 with ⟨e0, _⟩ | ⟨g', c', cur, e1, _, hg, h1, h2, h3, h4⟩
      · cases e0
      · cases e1
        simp only [Value.ownBlock, Option.some.injEq] at e
        subst e; subst hq
        rw [hB] at hg
        cases hg
        simp at h3
        omega
set_option maxHeartbeats 8000000 in
theorem rown_any {w:World} {a1 a2:Addr} {ac bc:Nat} {x:Ru} (h1:IntsAt w (some a1) x.1) (h2:IntsAt w (some a2) x.2) (p1:0<x.1.length) (p2:0<x.2.length) (m1:x.1.length≤2000) (m2:x.2.length≤2000) :
  Calls Tryz.prog 81 #[.agg #[.slice (some a1) x.1.length ac,.slice (some a2) x.2.length bc]] w fun e w' => ∃ g c g' c', e=.returned (.agg #[.slice (some ⟨g,0,none⟩) x.1.length c,.slice (some ⟨g', 0,none⟩) x.2.length c'])∧TmAt w' g c x.1∧TmAt w' g' c' x.2∧w.heap.size≤g∧w.heap.size≤g' ∧ Same0 w w' := by
 obtain ⟨wb,hwb⟩:∃ wb,wb=(w.alloc (.cells #[.slice (some a1) x.1.length ac,.slice (some a2) x.2.length bc] 49)).alloc (.cells #[.slice none 0 0,.slice none 0 0] 49):=⟨_,rfl⟩
 have K0:Same0 w wb:=by rw [hwb];exact ((Kept.refl _ w).alloc _).alloc _
 have z0:wb.heap.size=w.heap.size+2:=by rw [hwb];simp
 have B0:wb.heap[w.heap.size]? = some (.cells #[.slice (some a1) x.1.length ac,.slice (some a2) x.2.length bc] 49 (0,0)):=by rw [hwb];exact heap_alloc2_old _ _ _
 have B1:wb.heap[w.heap.size+1]? = some (.cells #[.slice none 0 0,.slice none 0 0] 49 (0,0)):=by rw [hwb];exact heap_al_al _ _ _
 have HS:Hid (∀ ww,Same0 wb ww→(ww.cell? ⟨w.heap.size,0,none⟩=some (.slice (some a1) x.1.length ac)∧ww.cell? ⟨w.heap.size,1,none⟩=some (.slice (some a2) x.2.length bc))∧(ww.cell? ⟨w.heap.size+1,0,none⟩=some (.slice none 0 0)∧ww.cell? ⟨w.heap.size+1,1,none⟩=some (.slice none 0 0))∧ww.frozen? ⟨w.heap.size+1,0,none⟩=false∧ww.frozen? ⟨w.heap.size+1,1,none⟩=false):=fun ww hk=>⟨⟨cellAt (hk.at0 B0) 0,cellAt (hk.at0 B0) 1⟩,⟨cellAt (hk.at0 B1) 0,cellAt (hk.at0 B1) 1⟩,frozenAt (hk.at0 B1) 0,frozenAt (hk.at0 B1) 1⟩
 have HEnd:Hid (∀ ww (A B:Value),Same0 wb ww→Same0 w ((ww.setCell ⟨w.heap.size+1,0,none⟩ A).setCell ⟨w.heap.size+1,1,none⟩ B)):=fun ww A B hk=>((K0.trans' hk).setCell (fun h=>absurd h (by simp)) _).setCell (fun h=>absurd h (by simp)) _
 have HT:Hid (∀ ww g c xs (A B:Value),TmAt ww g c xs→wb.heap.size≤g→TmAt ((ww.setCell ⟨w.heap.size+1,0,none⟩ A).setCell ⟨w.heap.size+1,1,none⟩ B) g c xs):=fun ww g c xs A B ht hg=>by
  have k:Kept (fun k=>k=w.heap.size+1) ww ((ww.setCell ⟨w.heap.size+1,0,none⟩ A).setCell ⟨w.heap.size+1,1,none⟩ B):=Kept.setCell (p:=⟨w.heap.size+1,1,none⟩) (Kept.setCell (p:=⟨w.heap.size+1,0,none⟩) (Kept.refl (fun k=>k=w.heap.size+1) ww) (fun _=>rfl) A) (fun _=>rfl) B
  exact k.row ht (fun i e=>by simp [Value.ownBlock] at e;omega)
 have HR:Hid (∀ ww (A B:Value),Same0 wb ww→((ww.setCell ⟨w.heap.size+1,0,none⟩ A).setCell ⟨w.heap.size+1,1,none⟩ B).cell? ⟨w.heap.size+1,0,none⟩=some A∧((ww.setCell ⟨w.heap.size+1,0,none⟩ A).setCell ⟨w.heap.size+1,1,none⟩ B).cell? ⟨w.heap.size+1,1,none⟩=some B):=fun ww A B hk=>by
  have b:=setAt (setAt (hk.at0 B1) 0 A) 1 B
  exact ⟨cellAt b 0,cellAt b 1⟩
 have I1:=h1.same K0
 have I2:=h2.same K0
 obtain ⟨⟨c00,c01⟩,⟨c10,c11⟩,f10,f11⟩:=HS.out wb (Kept.refl _ _)
 have HW:Hid (wb=(w.alloc (.cells #[.slice (some a1) x.1.length ac,.slice (some a2) x.2.length bc] 49)).alloc (.cells #[.slice none 0 0,.slice none 0 0] 49)):=hwb
 clear B0 B1 h1 h2 hwb
 go_enter Tryz.func81,Tryz.ntmps81
 go_wp2
 rw [← HW.out]
 have E0:(wb.alloc (.cells #[] 3)).heap[w.heap.size+2]? = some (.cells #[] 3 (0,0)):=by rw [← z0];exact heap_alloc_new _ _
 have E1:((wb.alloc (.cells #[] 3)).alloc (.cells #[] 3)).heap[w.heap.size+2]? = some (.cells #[] 3 (0,0)):=by rw [← z0];exact heap_alloc2_old _ _ _
 have E2:((wb.alloc (.cells #[] 3)).alloc (.cells #[] 3)).heap[w.heap.size+3]? = some (.cells #[] 3 (0,0)):=by have:=heap_alloc_new (wb.alloc (.cells #[] 3)) (.cells #[] 3 (0,0));rw [World.size_alloc,z0] at this;exact this
 have HE:Hid ((wb.alloc (.cells #[] 3)).heap[w.heap.size+2]? = some (.cells #[] 3 (0,0))∧((wb.alloc (.cells #[] 3)).alloc (.cells #[] 3)).heap[w.heap.size+2]? = some (.cells #[] 3 (0,0))∧((wb.alloc (.cells #[] 3)).alloc (.cells #[] 3)).heap[w.heap.size+3]? = some (.cells #[] 3 (0,0))):=⟨E0,E1,E2⟩
 have hz0:Hid (wb.heap.size=w.heap.size+2):=z0
 clear E0 E1 E2
 rename_i QQ KK hKK
 have FIN:Hid (∀ (t0 t1 t3 t4 t5 t6 t7 t8 t9 t10 t11:Value) (w2:World) (g c g' c' : Nat),Same0 wb w2→TmAt w2 g c x.1→TmAt w2 g' c' x.2→wb.heap.size≤g→wb.heap.size≤g' → KK { tmps:=#[t0,t1,.pointer (some ⟨w.heap.size+1,0,none⟩),t3,t4,t5,t6,t7,t8,t9,t10,t11],defers:=[] } ((w2.setCell ⟨w.heap.size+1,0,none⟩ (.slice (some ⟨g,0,none⟩) x.1.length c)).setCell ⟨w.heap.size+1,1,none⟩ (.slice (some ⟨g', 0,none⟩) x.2.length c'))):=by
  intro t0 t1 t3 t4 t5 t6 t7 t8 t9 t10 t11 w2 g c g' c' S3 T5 T3 G1 G3
  apply hKK
  clear HS I1 I2
  go_wp2
  exact bodyPost_ret (v:=.agg #[.slice (some ⟨g,0,none⟩) x.1.length c,.slice (some ⟨g', 0,none⟩) x.2.length c']) (by obtain ⟨r0,r1⟩:=HR.out w2 (.slice (some ⟨g,0,none⟩) x.1.length c) (.slice (some ⟨g', 0,none⟩) x.2.length c') S3;simp [results,Tryz.results81,go_sem,r0,r1]) rfl ⟨g,c,g', c', rfl,HT.out _ _ _ _ _ _ T5 G1,HT.out _ _ _ _ _ _ T3 G3,by omega,by omega,HEnd.out _ _ _ S3⟩
 clear HR HT HEnd
 go_region_law (first
  | (have T2:=T1;have hz:=hz0.out;have hzz:=S1.size;refine step_ownT (wb:=wb) (by rfl) _ _ (by rfl) _ (by rfl) x.2 a2 bc (by rfl) (by first | exact S1 | exact S1.alloc _) (by first | exact heap_alloc_new _ _ | exact X2 | exact X3) (by omega) I2 p2 m2 ?_;intro g' c' w2 T3 G3 S3 T4 _;obtain ⟨⟨e00,e01⟩,⟨e10,e11⟩,y10,y11⟩:=HS.out w2 S3;have T5:=T4 _ _ _ (by first | exact T2 | exact T2.same ((Kept.refl _ _).alloc _)) p1)
  | (have hz:=hz0.out;refine step_ownT (wb:=wb) (by rfl) _ _ (by rfl) _ (by rfl) x.1 a1 ac (by rfl) (by first | exact ((Kept.refl _ wb).alloc _).drew | exact (((Kept.refl _ wb).alloc _).alloc _).drew | exact (Kept.refl _ wb).drew.alloc _ | exact ((Kept.refl _ wb).drew.alloc _).alloc _) (by first | exact HE.out.1 | exact HE.out.2.1 | exact HE.out.2.2) (by omega) I1 p1 m1 ?_;intro g c w1 T1 G1 S1 T0 KQ;obtain ⟨⟨e00,e01⟩,⟨e10,e11⟩,y10,y11⟩:=HS.out w1 S1;obtain ⟨⟨_,e01'⟩,_⟩:=HS.out _ (S1.alloc (.cells #[] 3)); (try have X2:=KQ (w.heap.size+2) _ (by omega) HE.out.2.1); (try have X3:=KQ (w.heap.size+3) _ (by omega) HE.out.2.2);clear hz KQ T0))
 all_goals exact FIN.out _ _ _ _ _ _ _ _ _ _ _ w2 g c g' c' S3 T5 T3 G1 G3
set_option maxHeartbeats 4000000 in
theorem rfree_any {w:World} {ao bo:Option Addr} {ac bc:Nat} {x:Ru} (h1:IntsAt w ao x.1) (h2:IntsAt w bo x.2) (m1:x.1.length≤2000) (m2:x.2.length≤2000) (b1:∀ n∈x.1, -99≤n) (b2:∀ n∈x.2, -99≤n) :
  Calls Tryz.prog 153 #[.agg #[.slice ao x.1.length ac,.slice bo x.2.length bc]] w fun e w' => e=.returned (.bool (!x.2.all (fun n=>!freeB x.1 n)))∧Same0 w w' := by
 rw [← free_eq b1 b2]
 have W0:Same0 w (w.alloc (.cells #[.slice ao x.1.length ac,.slice bo x.2.length bc] 49)):=(Kept.refl _ w).alloc _
 have hb:=heap_alloc_new w (.cells #[.slice ao x.1.length ac,.slice bo x.2.length bc] 49)
 have HB:Hid (∀ ww,Same0 (w.alloc (.cells #[.slice ao x.1.length ac,.slice bo x.2.length bc] 49)) ww→ww.cell? ⟨w.heap.size,0,none⟩=some (.slice ao x.1.length ac)∧ww.cell? ⟨w.heap.size,1,none⟩=some (.slice bo x.2.length bc)):=fun ww hk=>⟨cellAt (hk.at0 hb) 0,cellAt (hk.at0 hb) 1⟩
 have l1:(varsL x.1).length≤x.1.length:=by have:=vs_len [] x.1;simpa [varsL] using this
 have l2:(varsL x.2).length≤x.2.length:=by have:=vs_len [] x.2;simpa [varsL] using this
 have C1:=rvars_any (cap:=ac) (h1.same W0) (by omega)
 have C2:Hid (∀ ww,Same0 (w.alloc (.cells #[.slice ao x.1.length ac,.slice bo x.2.length bc] 49)) ww→Calls Tryz.prog 175 #[.slice bo x.2.length bc] ww fun e w' => ∃ v,e=.returned v∧Row ww.heap.size w' v (varsL x.2)∧Same0 ww w'):=fun ww hk=>rvars_any (cap:=bc) ((h2.same W0).same hk) (by omega)
 obtain ⟨c0,c1⟩:=HB.out _ (Kept.refl _ _)
 clear h1 h2 hb b1 b2
 go_enter Tryz.func153,Tryz.ntmps153
 go_upto_region 2 with (first | (go_at_call 175;refine C1.mono ?_;rintro e w2 ⟨v2,rfl,hr2,hk2⟩;obtain ⟨vo,vc,rfl,hi2,_,_⟩:=hr2.ints))
 obtain ⟨d0,d1⟩:=HB.out _ hk2
 have C3:=C2.out _ hk2
 clear c0 c1 C1 C2
 go_upto_region 3 with (first | (go_at_call 175;refine C3.mono ?_;rintro e w3 ⟨v3,rfl,hr3,hk3⟩;obtain ⟨uo,uc,rfl,hi3,_,_⟩:=hr3.ints))
 have hi2' := hi2.same hk3
 have K3:Hid (Same0 w w3):=W0.trans' (hk2.trans' hk3)
 clear d0 d1 C3 hr2 hr3 hk2 hk3 hi2 HB W0
 have CI:=fun z=>rIn_any (cap:=vc) hi2' z (by unfold maxLen;omega)
 go_wp2
 go_loop [5] (fun i=>∃ k:Nat,k≤(varsL x.2).length∧i=.int .i64 (k:Int)∧Hid (((varsL x.2).take k).all (fun v=>inB (varsL x.1) v)=true)) (fun i=>(varsL x.2).length-(intOf i).toNat)
 case atStart=>exact ⟨0,Nat.zero_le _,rfl,by show _=_;simp⟩
 case round=>
  obtain ⟨k,hk,rfl,ha⟩:=hrel
  by_cases hlt:k<(varsL x.2).length
  ·obtain ⟨tb,off', rfl,_,hcell⟩:=hi3.get hlt
   have i1:(0:Int)≤(k:Int):=by omega
   have i2:(k:Int)<((varsL x.2).length:Int):=by omega
   have C:=CI (varsL x.2)[k]
   cases hq:inB (varsL x.1) (varsL x.2)[k] with
   | true=>
    have H:Hid (((varsL x.2).take (k+1)).all (fun v=>inB (varsL x.1) v)=true):=by
     have:=ha.out
     show _=_
     rw [List.take_add_one,List.getElem?_eq_getElem hlt,List.all_append,this]
     simp [hq]
    rw [hq] at C
    clear hq ha
    go_wp2_with (first | (go_at_call 176;refine C.mono ?_;rintro e w4 ⟨rfl,rfl⟩))
    exact ⟨⟨k+1,by omega,by go_num,H⟩,by simp [intOf];omega⟩
   | false=>
    have H:Hid ((varsL x.2).all (fun v=>inB (varsL x.1) v)=false):=by
     show _=_
     rw [List.all_eq_false]
     exact ⟨(varsL x.2)[k],List.getElem_mem hlt,by simp [hq]⟩
    rw [hq] at C
    clear hq ha
    go_wp2_with (first | (go_at_call 176;refine C.mono ?_;rintro e w4 ⟨rfl,rfl⟩))
    go_ret
    exact ⟨by rw [H.out];rfl,K3.out⟩
  ·have H:Hid ((varsL x.2).all (fun v=>inB (varsL x.1) v)=true):=by
    have:=ha.out
    rw [List.take_of_length_le (by omega)] at this
    exact this
   have hlt' : ¬ (k:Int)<((varsL x.2).length:Int):=by omega
   go_wp2
   go_ret
   exact ⟨by rw [H.out];rfl,K3.out⟩
theorem ck3_eq {L:List Sym} {R l:List Ru} {n:Nat} {x:Ru} (hx:x=l.getD n ([],[])) (hp:0<x.1.length):ckB L R l 3 n=defB L x.1[0]:=by
 subst hx
 show defB L ((l.getD n ([],[])).1.headD (-1))=_
 generalize (l.getD n ([],[])).1=y at *
 cases y with
 | nil=>simp at hp
 | cons y r=>simp
theorem ck4_eq {L:List Sym} {R l:List Ru} {n:Nat} {x:Ru} (hx:x=l.getD n ([],[])):ckB L R l 4 n=decide (negN x.1=(varsL x.1).length):=by subst hx;rfl
theorem ck5_eq {L:List Sym} {R l:List Ru} {n:Nat} {x:Ru} (hx:x=l.getD n ([],[])):ckB L R l 5 n=x.1.tail.all (fun n=>!defB L n):=by subst hx;rfl
theorem ck6_eq {L:List Sym} {R l:List Ru} {n:Nat} {x:Ru} (hx:x=l.getD n ([],[])):ckB L R l 6 n=x.2.all (fun n=>!freeB x.1 n):=by subst hx;rfl
theorem Upto.ok1 {L:List Sym} {R l:List Ru} {j n:Nat} (h:Upto L R l (j+2) n) {i:Nat} (hi:i<l.length):checkE L l[i].1=0∧checkE L l[i].2=0:=by
 have:=h.1 1 (by omega) i hi
 simp only [ckB,askB,Bool.and_eq_true,decide_eq_true_eq] at this
 simpa [List.getD,hi] using this
set_option maxHeartbeats 16000000 in
theorem rshapes_any {w:World} {m:Nat} {ro:Option Addr} {rc:Nat} {mo:Option Addr} {mc:Nat} {L:List Sym} {R:List Ru} (h:MR w m ro rc mo mc L R) {lo:Option Addr} {lc:Nat} {l:List Ru} (hl:RsAt w lo l) (hn:l.length≤100) (hu:Upto L R l 3 0) :
  Calls Tryz.prog 120 #[.pointer (some ⟨m,0,none⟩),.slice lo l.length lc] w fun e w' => ∃ ws v,e=.returned v∧PartA L R l 3 7 ws∧WrsAt w' v ws∧Same0 w w' := by
 have hs:Same0 w w:=Kept.refl _ _
 have hu2:Hid (Upto L R l 3 0):=hu
 have hok:∀ i (hi:i<l.length),checkE L l[i].1=0∧checkE L l[i].2=0:=fun i hi=>hu.ok1 hi
 clear hu
 go_enter Tryz.func120,Tryz.ntmps120
 go_wp2
 go_loopw [5] (fun i wr=>∃ n:Nat,n≤l.length∧i=.int .i64 (n:Int)∧Hid (Upto L R l 3 n)∧Same0 w wr) (fun i _=>l.length-(intOf i).toNat)
 case atStart=>exact ⟨0,Nat.zero_le _,rfl,hu2,hs⟩
 case round=>
  clear hs hu2 
  obtain ⟨n,hnl,rfl,hu,hs⟩:=hrel
  by_cases hlt:n<l.length
  ·obtain ⟨lb,off,rfl,hlb,hru⟩:=(hl.same hs).get hlt
   obtain ⟨x,hx0⟩:∃ x,x=l[n]:=⟨_,rfl⟩
   have hxo:=hok n hlt
   rw [← hx0] at hru hxo
   have hx:x=l.getD n ([],[]):=by rw [hx0];simp [List.getD,hlt]
   obtain ⟨ao,ac,bo,bc,r0,r1,A1,A2⟩:=hru
   have i1:(0:Int)≤(n:Int):=by omega
   have i2:(n:Int)<(l.length:Int):=by omega
   have hm1:=h.same hs
   obtain ⟨⟨hp1,hm11⟩,hp2,hm22⟩:=ok_len hxo
   have P0:Hid (ckB L R l 3 n=true→Upto L R l 3 (n+1)):=fun q=>hu.out.step q
   have P1:Hid (ckB L R l 3 n=false→PartA L R l 3 7 [(73,(n:Int))]):=fun q=>.inr ⟨3,n,by omega,by omega,hlt,hu.out,q,rfl⟩
   obtain ⟨ab,ao', rfl,HX⟩:∃ ab ao', ao=some ⟨ab,ao', none⟩∧Hid (∀ ww,Same0 wr ww→ww.cell? ⟨ab,ao', none⟩=some (.int .i64 x.1[0])):=by
    obtain ⟨ab,ao', e,hlt', hc⟩:=A1.at'.get hp1
    exact ⟨ab,ao', e,fun ww hk=>(hk.cell (p:=⟨ab,ao' + 0,none⟩) hlt' (fun f=>f)).trans hc⟩
   have i3:(0:Int)<(x.1.length:Int):=by omega
   have HS:Hid (∀ ww,Same0 wr ww→ww.cell? ⟨m,0,none⟩=some (.slice ro L.length rc)∧ww.cell? ⟨lb,off+n * 2,none⟩=some (.slice (some ⟨ab,ao', none⟩) x.1.length ac)∧ww.cell? ⟨ab,ao', none⟩=some (.int .i64 x.1[0])):=fun ww hk=>⟨cellAt (hm1.same hk).blk 0,(hk.cell (p:=⟨lb,off+n * 2,none⟩) hlb (fun f=>f)).trans r0,HX.out ww hk⟩
   have CC0:=HS.out wr (Kept.refl _ _)
   have W1:Same0 wr wr.drew:=Kept.drew (Kept.refl _ _)
   have C1:Hid (∀ ww,Same0 wr ww→Calls Tryz.prog 43 #[.slice ro L.length rc,.int .i64 x.1[0]] ww fun e w' => e=.returned (.bool (defB L x.1[0]))∧Same0 wr w'):=fun ww hk=>(rdef_any (hm1.same hk).rl x.1[0]).mono (fun e w' ⟨q1,q2⟩=>⟨q1,by rw [q2];exact hk⟩)
   cases hq:defB L x.1[0] with
   | true=>
    have P:=P0.out (by rw [ck3_eq hx hp1,hq])
    have C2:Hid (∀ ww,Same0 wr ww→Calls Tryz.prog 43 #[.slice ro L.length rc,.int .i64 x.1[0]] ww fun e w' => e=.returned (.bool true)∧Same0 wr w'):=by simpa only [hq] using C1
    clear P0 P1 hq hx hx0 hu hm1 A1 A2 C1
    go_wp2
    go_region_held3 (fun w' => w'.cell? ⟨m,0,none⟩=some (.slice ro L.length rc)∧w'.cell? ⟨lb,off+n * 2,none⟩=some (.slice (some ⟨ab,ao', none⟩) x.1.length ac)∧w'.cell? ⟨ab,ao', none⟩=some (.int .i64 x.1[0])) (first | exact cc1 | exact CC0) (first | (go_at_call 43;refine (C2.out _ W1).mono ?_;rintro e w2 ⟨rfl,hw2⟩;have cc1:=HS.out _ hw2))
    all_goals
     go_wp2
     exact ⟨⟨n+1,by omega,by go_num,P,hs.trans' hw2⟩,by simp [intOf];omega⟩
   | false=>
    have P:=P1.out (by rw [ck3_eq hx hp1,hq])
    have C2:Hid (∀ ww,Same0 wr ww→Calls Tryz.prog 43 #[.slice ro L.length rc,.int .i64 x.1[0]] ww fun e w' => e=.returned (.bool false)∧Same0 wr w'):=by simpa only [hq] using C1
    clear P0 P1 hq hx hx0 hu hm1 A1 A2 C1
    go_wp2
    go_region_held3 (fun w' => w'.cell? ⟨m,0,none⟩=some (.slice ro L.length rc)∧w'.cell? ⟨lb,off+n * 2,none⟩=some (.slice (some ⟨ab,ao', none⟩) x.1.length ac)∧w'.cell? ⟨ab,ao', none⟩=some (.int .i64 x.1[0])) (first | exact cc1 | exact CC0) (first | (go_at_call 43;refine (C2.out _ W1).mono ?_;rintro e w2 ⟨rfl,hw2⟩;have cc1:=HS.out _ hw2))
    all_goals
     go_wp2_with (first | (go_at_call 118;refine (rone_any _ _ _).mono ?_;rintro e w3 ⟨v,rfl,hv,hk3⟩))
     go_ret
     exact ⟨_,_,rfl,P,hv,hs.trans' (hw2.trans' hk3)⟩
  ·have hu2:Hid (Upto L R l 4 0):=hu.out.next (by omega)
   have hlt' : ¬ (n:Int)<(l.length:Int):=by omega
   clear hu hlt
   go_wp2
   go_loopw [7] (fun i wr=>∃ n:Nat,n≤l.length∧i=.int .i64 (n:Int)∧Hid (Upto L R l 4 n)∧Same0 w wr) (fun i _=>l.length-(intOf i).toNat)
   case atStart=>exact ⟨0,Nat.zero_le _,rfl,hu2,hs⟩
   case round=>
    clear hs hu2 hlt' hnl
    obtain ⟨n,hnl,rfl,hu,hs⟩:=hrel
    by_cases hlt:n<l.length
    ·obtain ⟨lb,off,rfl,hlb,hru⟩:=(hl.same hs).get hlt
     obtain ⟨x,hx0⟩:∃ x,x=l[n]:=⟨_,rfl⟩
     have hxo:=hok n hlt
     rw [← hx0] at hru hxo
     have hx:x=l.getD n ([],[]):=by rw [hx0];simp [List.getD,hlt]
     obtain ⟨ao,ac,bo,bc,r0,r1,A1,A2⟩:=hru
     have i1:(0:Int)≤(n:Int):=by omega
     have i2:(n:Int)<(l.length:Int):=by omega
     have hm1:=h.same hs
     obtain ⟨⟨hp1,hm11⟩,hp2,hm22⟩:=ok_len hxo
     have P0:Hid (ckB L R l 4 n=true→Upto L R l 4 (n+1)):=fun q=>hu.out.step q
     have P1:Hid (ckB L R l 4 n=false→PartA L R l 3 7 [(74,(n:Int))]):=fun q=>.inr ⟨4,n,by omega,by omega,hlt,hu.out,q,rfl⟩
     have C1:=rlinear_any (ac:=ac) A1.at' hm11
     cases hq:decide (negN x.1=(varsL x.1).length) with
     | true=>
      have P:=P0.out (by rw [ck4_eq hx,hq])
      rw [hq] at C1
      clear P0 P1 hq hx hx0 hu hm1 A1 A2
      go_wp2_with (first | (go_at_call 151;refine C1.mono ?_;rintro e w2 ⟨rfl,hw2⟩))
      exact ⟨⟨n+1,by omega,by go_num,P,hs.trans' hw2⟩,by simp [intOf];omega⟩
     | false=>
      have P:=P1.out (by rw [ck4_eq hx,hq])
      rw [hq] at C1
      clear P0 P1 hq hx hx0 hu hm1 A1 A2
      go_wp2_with (first | (go_at_call 118;refine (rone_any _ _ _).mono ?_;rintro e w3 ⟨v,rfl,hv,hk3⟩) | (go_at_call 151;refine C1.mono ?_;rintro e w2 ⟨rfl,hw2⟩))
      go_ret
      exact ⟨_,_,rfl,P,hv,hs.trans' (hw2.trans' hk3)⟩
    ·have hu2:Hid (Upto L R l 5 0):=hu.out.next (by omega)
     have hlt' : ¬ (n:Int)<(l.length:Int):=by omega
     clear hu hlt
     go_wp2
     go_loopw [9] (fun i wr=>∃ n:Nat,n≤l.length∧i=.int .i64 (n:Int)∧Hid (Upto L R l 5 n)∧Same0 w wr) (fun i _=>l.length-(intOf i).toNat)
     case atStart=>exact ⟨0,Nat.zero_le _,rfl,hu2,hs⟩
     case round=>
      clear hs hu2 hlt' hnl
      obtain ⟨n,hnl,rfl,hu,hs⟩:=hrel
      by_cases hlt:n<l.length
      ·obtain ⟨lb,off,rfl,hlb,hru⟩:=(hl.same hs).get hlt
       obtain ⟨x,hx0⟩:∃ x,x=l[n]:=⟨_,rfl⟩
       have hxo:=hok n hlt
       rw [← hx0] at hru hxo
       have hx:x=l.getD n ([],[]):=by rw [hx0];simp [List.getD,hlt]
       obtain ⟨ao,ac,bo,bc,r0,r1,A1,A2⟩:=hru
       have i1:(0:Int)≤(n:Int):=by omega
       have i2:(n:Int)<(l.length:Int):=by omega
       have hm1:=h.same hs
       obtain ⟨⟨hp1,hm11⟩,hp2,hm22⟩:=ok_len hxo
       have P0:Hid (ckB L R l 5 n=true→Upto L R l 5 (n+1)):=fun q=>hu.out.step q
       have P1:Hid (ckB L R l 5 n=false→PartA L R l 3 7 [(75,(n:Int))]):=fun q=>.inr ⟨5,n,by omega,by omega,hlt,hu.out,q,rfl⟩
       have HS:Hid (∀ ww,Same0 wr ww→ww.cell? ⟨m,0,none⟩=some (.slice ro L.length rc)∧ww.cell? ⟨lb,off+n * 2,none⟩=some (.slice ao x.1.length ac)):=fun ww hk=>⟨cellAt (hm1.same hk).blk 0,(hk.cell (p:=⟨lb,off+n * 2,none⟩) hlb (fun f=>f)).trans r0⟩
       have CC0:=HS.out wr (Kept.refl _ _)
       have W1:Same0 wr wr.drew:=Kept.drew (Kept.refl _ _)
       have C1:Hid (∀ ww,Same0 wr ww→Calls Tryz.prog 152 #[.slice ro L.length rc,.slice ao x.1.length ac] ww fun e w' => e=.returned (.bool (x.1.tail.all (fun n=>!defB L n)))∧Same0 wr w'):=fun ww hk=>(rbelow_any (hm1.same hk).rl (A1.same hk).at' hm11).mono (fun e w' ⟨q1,q2⟩=>⟨q1,by rw [q2];exact hk⟩)
       cases hq:x.1.tail.all (fun n=>!defB L n) with
       | true=>
        have P:=P0.out (by rw [ck5_eq hx,hq])
        have C2:Hid (∀ ww,Same0 wr ww→Calls Tryz.prog 152 #[.slice ro L.length rc,.slice ao x.1.length ac] ww fun e w' => e=.returned (.bool true)∧Same0 wr w'):=by simpa only [hq] using C1
        clear P0 P1 hq hx hx0 hu hm1 A1 A2 C1
        go_wp2
        go_region_held3 (fun w' => w'.cell? ⟨m,0,none⟩=some (.slice ro L.length rc)∧w'.cell? ⟨lb,off+n * 2,none⟩=some (.slice ao x.1.length ac)) (first | exact cc1 | exact CC0) (first | (go_at_call 152;refine (C2.out _ W1).mono ?_;rintro e w2 ⟨rfl,hw2⟩;have cc1:=HS.out _ hw2))
        all_goals
         go_wp2
         exact ⟨⟨n+1,by omega,by go_num,P,hs.trans' hw2⟩,by simp [intOf];omega⟩
       | false=>
        have P:=P1.out (by rw [ck5_eq hx,hq])
        have C2:Hid (∀ ww,Same0 wr ww→Calls Tryz.prog 152 #[.slice ro L.length rc,.slice ao x.1.length ac] ww fun e w' => e=.returned (.bool false)∧Same0 wr w'):=by simpa only [hq] using C1
        clear P0 P1 hq hx hx0 hu hm1 A1 A2 C1
        go_wp2
        go_region_held3 (fun w' => w'.cell? ⟨m,0,none⟩=some (.slice ro L.length rc)∧w'.cell? ⟨lb,off+n * 2,none⟩=some (.slice ao x.1.length ac)) (first | exact cc1 | exact CC0) (first | (go_at_call 152;refine (C2.out _ W1).mono ?_;rintro e w2 ⟨rfl,hw2⟩;have cc1:=HS.out _ hw2))
        all_goals
         go_wp2_with (first | (go_at_call 118;refine (rone_any _ _ _).mono ?_;rintro e w3 ⟨v,rfl,hv,hk3⟩))
         go_ret
         exact ⟨_,_,rfl,P,hv,hs.trans' (hw2.trans' hk3)⟩
      ·have hu2:Hid (Upto L R l 6 0):=hu.out.next (by omega)
       have hlt' : ¬ (n:Int)<(l.length:Int):=by omega
       clear hu hlt
       go_wp2
       go_loopw [11] (fun i wr=>∃ n:Nat,n≤l.length∧i=.int .i64 (n:Int)∧Hid (Upto L R l 6 n)∧Same0 w wr) (fun i _=>l.length-(intOf i).toNat)
       case atStart=>exact ⟨0,Nat.zero_le _,rfl,hu2,hs⟩
       case round=>
        clear hs hu2 hlt' hnl
        obtain ⟨n,hnl,rfl,hu,hs⟩:=hrel
        by_cases hlt:n<l.length
        ·obtain ⟨lb,off,rfl,hlb,hru⟩:=(hl.same hs).get hlt
         obtain ⟨x,hx0⟩:∃ x,x=l[n]:=⟨_,rfl⟩
         have hxo:=hok n hlt
         rw [← hx0] at hru hxo
         have hx:x=l.getD n ([],[]):=by rw [hx0];simp [List.getD,hlt]
         obtain ⟨ao,ac,bo,bc,r0,r1,A1,A2⟩:=hru
         have i1:(0:Int)≤(n:Int):=by omega
         have i2:(n:Int)<(l.length:Int):=by omega
         have hm1:=h.same hs
         obtain ⟨⟨hp1,hm11⟩,hp2,hm22⟩:=ok_len hxo
         have P0:Hid (ckB L R l 6 n=true→Upto L R l 6 (n+1)):=fun q=>hu.out.step q
         have P1:Hid (ckB L R l 6 n=false→PartA L R l 3 7 [(76,(n:Int))]):=fun q=>.inr ⟨6,n,by omega,by omega,hlt,hu.out,q,rfl⟩
         have C1:=rfree_any (ac:=ac) (bc:=bc) A1.at' A2.at' hm11 hm22 (fun n hn=>(badE_zero.1 (checkE_zero.1 hxo.1).2.1 n hn).2) (fun n hn=>(badE_zero.1 (checkE_zero.1 hxo.2).2.1 n hn).2)
         cases hq:x.2.all (fun n=>!freeB x.1 n) with
         | true=>
          have P:=P0.out (by rw [ck6_eq hx,hq])
          rw [hq] at C1
          clear P0 P1 hq hx hx0 hu hm1 A1 A2
          go_wp2_with (first | (go_at_call 153;refine C1.mono ?_;rintro e w2 ⟨rfl,hw2⟩))
          exact ⟨⟨n+1,by omega,by go_num,P,hs.trans' hw2⟩,by simp [intOf];omega⟩
         | false=>
          have P:=P1.out (by rw [ck6_eq hx,hq])
          rw [hq] at C1
          clear P0 P1 hq hx hx0 hu hm1 A1 A2
          go_wp2_with (first | (go_at_call 118;refine (rone_any _ _ _).mono ?_;rintro e w3 ⟨v,rfl,hv,hk3⟩) | (go_at_call 153;refine C1.mono ?_;rintro e w2 ⟨rfl,hw2⟩))
          go_ret
          exact ⟨_,_,rfl,P,hv,hs.trans' (hw2.trans' hk3)⟩
        ·have P:Hid (PartA L R l 3 7 []):=.inl ⟨rfl,hu.out.next (by omega)⟩
         have hlt' : ¬ (n:Int)<(l.length:Int):=by omega
         clear hu hlt
         go_wp2
         go_ret
         exact ⟨_,_,rfl,P.out,wrs_nil _,hs⟩
end Go.Proofs.YtdlibbiaaejpmaaGreat
