import Derived.Test.YtoajbpmgoklflaaGreatTB14
namespace Go.Proofs.YtoajbpmgoklflaaGreat
set_option maxRecDepth 100000
set_option linter.unusedVariables false
open Go.RowKit
attribute [local go_sem ↓] Go.wp_at_zero Go.wp_at_succ
set_option maxHeartbeats 1000000 in
theorem tdef_any {n b:Nat} {w:World} {L:List Sym} (h:Sg n w b L) (x:Int) :
  Calls Tryz.prog 36 #[.pointer (some ⟨b,0,none⟩),.int .i64 x] w fun e w' => e=.returned (.bool (defB L x))∧Same0 w w' := by
 by_cases hx:x<0∨(L.length:Int)≤x
 ·have H1:Hid (defB L x=false):=defB_no hx
  have c:=sg_at_no h hx
  clear h
  go_enter Tryz.func36,Tryz.ntmps36
  go_wp2_with (first | (go_at_call 81;refine c.mono ?_;rintro e w' ⟨rfl,hk⟩))
  go_ret
  exact ⟨by rw [H1.out];rfl,Kept.alloc hk _⟩
 ·obtain ⟨i,rfl⟩:∃ i:Nat,x=(i:Int):=⟨x.toNat,by omega⟩
  have hi:i<L.length:=by omega
  have H1:Hid (defB L (i:Int)=L[i].df):=defB_at hi
  have c:=sg_at_yes h hi
  clear h
  go_enter Tryz.func36,Tryz.ntmps36
  go_wp2_with (first | (go_at_call 81;refine c.mono ?_;rintro e w' ⟨rfl,hk⟩))
  go_ret
  exact ⟨by rw [H1.out];rfl,Kept.alloc hk _⟩
theorem assert_flt (v:Value) (w:World):(Instr.typeAssert (.iface 98 v) 20 98 true).run Tryz.prog w=.ok (.tuple #[v,.bool true]) w:=by kernel_rfl
set_option maxHeartbeats 1000000 in
theorem forkOf_any (k:Nat) (w:World):Calls Tryz.prog 38 #[.iface 98 (.pointer (some ⟨k,0,none⟩))] w fun e w' => e=.returned (.iface 98 (.pointer (some ⟨k,0,none⟩)))∧w' = w:=by
 have hta:=assert_flt (.pointer (some ⟨k,0,none⟩)) w
 go_enter Tryz.func38,Tryz.ntmps38
 go_wp2_with fail
 go_ret
 exact ⟨rfl,rfl⟩
theorem any_ne (v:Value) (w:World):(binOp .neq 20 (.iface 98 v) .nilIface).run Tryz.prog w=.ok (.bool true) w:=by kernel_rfl
theorem any_nil (w:World):(binOp .neq 20 .nilIface .nilIface).run Tryz.prog w=.ok (.bool false) w:=by kernel_rfl
set_option maxHeartbeats 2000000 in
theorem catch_fork {ps pe:Nat} {s:Int} (k:Nat) (w:World) (hs:w.cell? ⟨ps,0,none⟩=some (.int .i64 s)) {x:Value} (he:w.heap[pe]? = some (.cells #[x] 37 (0,0))) (hpe:¬ ps=pe) :
  CallsD Tryz.prog 37 #[.pointer (some ⟨ps,0,none⟩),.pointer (some ⟨pe,0,none⟩)] (.panicking [{ v:=.iface 98 (.pointer (some ⟨k,0,none⟩)),recovered:=false }]) w fun e u' w' =>
   e=.returned (.tuple #[])∧u' = .panicking [{ v:=.iface 98 (.pointer (some ⟨k,0,none⟩)),recovered:=true }]∧∃ q,w'.heap[q]? = some (.cells #[.int .i64 81,.int .i64 s,.iface 98 (.pointer (some ⟨k,0,none⟩))] 100 (0,0))∧w'.heap[pe]? = some (.cells #[.iface 98 (.pointer (some ⟨q,0,none⟩))] 37 (0,0))∧Kept (fun i=>i=pe) w w' := by
 have hne:=any_ne
 have hfk:=forkOf_any
 have c0:=cellAt he 0
 have f0:=frozenAt he 0
 simp only [List.getElem?_toArray,List.getElem?_cons_zero] at c0
 refine callsD_of_wpS Tryz.func37 rfl fun c₀ cs hu=>?_
 apply wpS_seq
 apply wpS_region
 simp [wpOpsS,go_sem,recoverD,hu,Tryz.ntmps37,Exit.thenS]
 apply wpS_of_wp
 have d0:w.drew.cell? ⟨ps,0,none⟩=some (.int .i64 s):=hs
 have fa:∀ o,(w.drew.alloc o).cell? ⟨pe,0,none⟩=some x:=fun o=>cell_al (w:=w.drew) c0 o
 have fz:∀ o,(w.drew.alloc o).frozen? ⟨pe,0,none⟩=false:=fun o=>frozenAt (Same0.at0 (Kept.alloc (Kept.drew (Kept.refl (fun _=>False) w)) o) he) 0
 have FIN:Hid (∃ q,((w.drew.alloc (.cells #[.int .i64 81,.int .i64 s,.iface 98 (.pointer (some ⟨k,0,none⟩))] 100)).setCell ⟨pe,0,none⟩ (.iface 98 (.pointer (some ⟨w.heap.size,0,none⟩)))).heap[q]? = some (.cells #[.int .i64 81,.int .i64 s,.iface 98 (.pointer (some ⟨k,0,none⟩))] 100 (0,0))∧((w.drew.alloc (.cells #[.int .i64 81,.int .i64 s,.iface 98 (.pointer (some ⟨k,0,none⟩))] 100)).setCell ⟨pe,0,none⟩ (.iface 98 (.pointer (some ⟨w.heap.size,0,none⟩)))).heap[pe]? = some (.cells #[.iface 98 (.pointer (some ⟨q,0,none⟩))] 37 (0,0))∧Kept (fun i=>i=pe) w ((w.drew.alloc (.cells #[.int .i64 81,.int .i64 s,.iface 98 (.pointer (some ⟨k,0,none⟩))] 100)).setCell ⟨pe,0,none⟩ (.iface 98 (.pointer (some ⟨w.heap.size,0,none⟩))))):=by
  have ka:Same0 w (w.drew.alloc (.cells #[.int .i64 81,.int .i64 s,.iface 98 (.pointer (some ⟨k,0,none⟩))] 100)):=Kept.alloc (Kept.drew (Kept.refl _ w)) _
  have ks:=Kept.setCell (p:=⟨pe,0,none⟩) (Kept.refl (fun i=>i=pe) (w.drew.alloc (.cells #[.int .i64 81,.int .i64 s,.iface 98 (.pointer (some ⟨k,0,none⟩))] 100))) (fun _=>rfl) (.iface 98 (.pointer (some ⟨w.heap.size,0,none⟩)))
  have hp:pe<w.heap.size:=lt_of_at he
  exact ⟨w.heap.size,ks.at (heap_alloc_new w.drew _) (fun e=>by omega),setAt (ka.at0 he) 0 _,Kept.trans ka.mono' ks (fun _ _ e=>e)⟩
 clear he
 go_wp2_with fail
 have fa1:=fa (.cells #[.int .i64 81,.int .i64 s,.iface 98 (.pointer (some ⟨k,0,none⟩))] 100)
 have fz1:=fz (.cells #[.int .i64 81,.int .i64 s,.iface 98 (.pointer (some ⟨k,0,none⟩))] 100)
 have fs1:(w.drew.alloc (.cells #[.int .i64 81,.int .i64 s,.iface 98 (.pointer (some ⟨k,0,none⟩))] 100)).cell? ⟨ps,0,none⟩=some (.int .i64 s):=cell_al (w:=w.drew) hs _
 have fs2:((w.drew.alloc (.cells #[.int .i64 81,.int .i64 s,.iface 98 (.pointer (some ⟨k,0,none⟩))] 100)).setCell ⟨pe,0,none⟩ (.iface 98 (.pointer (some ⟨w.heap.size,0,none⟩)))).cell? ⟨ps,0,none⟩=some (.int .i64 s):=by
  have ks:=Kept.setCell (p:=⟨pe,0,none⟩) (Kept.refl (fun i=>i=pe) (w.drew.alloc (.cells #[.int .i64 81,.int .i64 s,.iface 98 (.pointer (some ⟨k,0,none⟩))] 100))) (fun _=>rfl) (.iface 98 (.pointer (some ⟨w.heap.size,0,none⟩)))
  exact (ks.cell (p:=⟨ps,0,none⟩) (World.block_lt_of_cell? _ _ fs1) hpe).trans fs1
 have fa2:(w.alloc (.cells #[.int .i64 81,.int .i64 s,.iface 98 (.pointer (some ⟨k,0,none⟩))] 100)).cell? ⟨pe,0,none⟩=some x:=fa1
 have fz2:(w.alloc (.cells #[.int .i64 81,.int .i64 s,.iface 98 (.pointer (some ⟨k,0,none⟩))] 100)).frozen? ⟨pe,0,none⟩=false:=fz1
 clear fa fz
 refine wp_region_held_drew (S:=fun w' => w'.cell? ⟨ps,0,none⟩=some (.int .i64 s)) (by kernel_rfl) d0 (fun hHeld=>?_)
 refine wpAnyH_take (i:=0) (v:=.int .i64 s) rfl (by kernel_rfl) (by kernel_rfl) (by kernel_rfl) (fun _ _ _ h=>h) (.inl ⟨rfl,fun w' hS=>by simp [go_sem,hS]⟩) hHeld ?_
 refine wpAnyH_take (i:=1) (v:=.iface 98 (.pointer (some ⟨k,0,none⟩))) rfl (by kernel_rfl) (by kernel_rfl) (by kernel_rfl) (fun _ _ _ h=>h) (.inl ⟨rfl,fun w' hS=>by simp [go_sem]⟩) hHeld ?_
 refine wpAnyH_ready (rs:=[2]) (by kernel_rfl) (by simp) ?_
 refine AllReadyH.cons rfl (fun K hK=>?_) AllReadyH.nil
 refine step_callx rfl (hfk k w.drew) (by simp [go_sem]) ?_
 rintro e w2 ⟨rfl,rfl⟩
 refine ⟨_,rfl,?_⟩
 refine hK.out _ _ d0 (fun hHeld=>?_)
 clear hK K
 refine wpAnyH_take (i:=3) (v:=.agg #[.int .i64 81,.int .i64 s,.iface 98 (.pointer (some ⟨k,0,none⟩))]) rfl (by kernel_rfl) (by kernel_rfl) (by kernel_rfl) (fun _ _ _ h=>h) (.inl ⟨rfl,fun w' hS=>by simp [go_sem]⟩) hHeld ?_
 refine wpAnyH_ready (rs:=[4]) (by kernel_rfl) (by simp) ?_
 refine AllReadyH.cons rfl (fun K hK=>?_) AllReadyH.nil
 go_simp
 refine hK.out _ _ fs1 (fun hHeld=>?_)
 clear hK K
 refine wpAnyH_take (i:=5) (v:=.iface 98 (.pointer (some ⟨w.heap.size,0,none⟩))) rfl (by kernel_rfl) (by kernel_rfl) (by kernel_rfl) (fun _ _ _ h=>h) (.inl ⟨rfl,fun w' hS=>by simp [go_sem]⟩) hHeld ?_
 refine wpAnyH_ready (rs:=[6]) (by kernel_rfl) (by simp) ?_
 refine AllReadyH.cons rfl (fun K hK=>?_) AllReadyH.nil
 go_simp
 refine hK.out _ _ fs2 (fun hHeld=>?_)
 clear hK K
 refine wpAnyH_done (by kernel_rfl) ?_ _
 go_wp2_with fail
 simp [go_sem,bodyPostS,results,Tryz.results37]
 exact FIN.out
set_option maxHeartbeats 2000000 in
theorem catch_none {ps pe:Nat} (w:World) :
  CallsD Tryz.prog 37 #[.pointer (some ⟨ps,0,none⟩),.pointer (some ⟨pe,0,none⟩)] .returning w fun e u' w' => e=.returned (.tuple #[])∧u' = .returning∧w' = w:=by
 have hne:=any_nil
 refine callsD_of_wpS Tryz.func37 rfl fun c₀ cs hu=>?_
 apply wpS_seq
 apply wpS_region
 simp [wpOpsS,go_sem,recoverD,hu,Tryz.ntmps37,Exit.thenS]
 apply wpS_of_wp
 go_wp2_with fail
 simp [go_sem,bodyPostS,results,Tryz.results37]
 cases c₀
 simp only at hu
 subst hu
 rfl
abbrev zeroC:Value:=.agg #[.int .i64 0,.int .i64 0,.slice none 0 0,.slice none 0 0]
def treeF (L:List Sym) (R:List Ru) (s:Nat):Except Int (Tr 2001):=growF L 2001 (rootP L s) (rootR L R s)
def BldPost (L:List Sym) (R:List Ru) (n:Int) (w:World) (e:Ending) (w' : World):Prop:=
 Same0 w w' ∧ if defB L n=true then
  (match treeF L R n.toNat with
  | .ok t=>∃ v,e=.returned (.tuple #[v,.nilIface])∧CsB (fun b=>w.heap.size≤b) w' 2001 v t
  | .error z=>∃ v,e=.returned (.tuple #[zeroC,v])∧FltAt w' [(81,n),(82,z)] v)
 else ∃ v,e=.returned (.tuple #[zeroC,v])∧FltAt w' [(80,0)] v
theorem ptr_nil (b:Nat) (w:World):(binOp .eql 26 (.pointer (some ⟨b,0,none⟩)) (.pointer none)).run Tryz.prog w=.ok (.bool false) w:=by kernel_rfl
theorem kidsN_err {α:Type} {has:Nat→Bool} {g:Nat→Except Int α} {z:Int}:∀ {k:Nat},kidsN has g k=.error z→∃ j,g j=.error z
 | 0,h=>by cases h
 | k+1,h=>by
  rw [kidsN] at h
  cases hk:kidsN has g k with
  | error e=>rw [hk] at h;cases h;exact kidsN_err hk
  | ok l=>
   rw [hk] at h
   simp only at h
   split at h
   ·cases hg:g k with
    | error e=>rw [hg] at h;cases h;exact ⟨k,hg⟩
    | ok t=>rw [hg] at h;cases h
   ·cases h
theorem growF_err {L:List Sym} {z:Int}:∀ {n:Nat} {P:List (List Int)} {R:List Rw},(∀ x∈R,0≤x.1)→growF L n P R=.error z→0≤z
 | 0,P,R,hR,h=>by rw [growF] at h;cases h;omega
 | n+1,P,R,hR,h=>by
  have hh:¬ R.length=0→0≤(R.headD (0,[],[])).1:=fun h0=>by
   cases R with
   | nil=>simp at h0
   | cons x r=>exact hR x (List.mem_cons_self ..)
  by_cases h0:R.length=0
  ·rw [growF_zero h0] at h;cases h
  ·cases hp:partN R P.length with
   | some c=>
    rw [growF_branch h0 hp] at h
    unfold BrF at h
    cases hk:KidsF L n P R c L.length with
    | ok l=>rw [hk] at h;cases h
    | error e=>
     rw [hk] at h
     cases h
     obtain ⟨j,hj⟩:=kidsN_err hk
     refine growF_err (fun x hx=>?_) hj
     obtain ⟨y,hy,rfl⟩:=List.mem_map.1 hx
     exact hR y (havR_mem hy).1
   | none=>
    by_cases h1:R.length=1
    ·rw [growF_leaf h1 hp] at h;cases h
    ·rw [growF_fork h0 h1 hp] at h;cases h;exact hh h0
set_option maxHeartbeats 16000000 in
theorem build_any {w:World} {b bs:Nat} {L:List Sym} {R:List Ru} {lv:Value} {vs:List Value} (h:StAt w b bs L R lv vs) (n:Int) :
  Calls Tryz.prog 8 #[.pointer (some ⟨b,0,none⟩),.int .i64 n] w (BldPost L R n w):=by
 have hpn:=ptr_nil
 have hle:=h.le
 have hok:=h.ok
 obtain ⟨W1,hW1⟩:∃ W1,W1=((w.alloc (.cells #[.int .i64 n] 3)).alloc zeroCs).alloc (.cells #[.nilIface] 37):=⟨_,rfl⟩
 have KW:Same0 w W1:=by rw [hW1];exact (((Kept.refl _ w).alloc _).alloc _).alloc _
 have ez:W1.heap.size=w.heap.size+1+1+1:=by rw [hW1];simp
 have BK:Hid (∀ ww,Same0 W1 ww→ww.heap[w.heap.size]? = some (.cells #[.int .i64 n] 3 (0,0))∧ww.heap[w.heap.size+1]? = some (.cells #[.int .i64 0,.int .i64 0,.slice none 0 0,.slice none 0 0] 35 (0,0))∧ww.heap[w.heap.size+1+1]? = some (.cells #[.nilIface] 37 (0,0))):=fun ww hk=>by
  have k1:Same0 (w.alloc (.cells #[.int .i64 n] 3)) W1:=by rw [hW1];exact ((Kept.refl _ _).alloc _).alloc _
  have k2:Same0 ((w.alloc (.cells #[.int .i64 n] 3)).alloc zeroCs) W1:=by rw [hW1];exact (Kept.refl _ _).alloc _
  have h3:=heap_al_al (w.alloc (.cells #[.int .i64 n] 3)) zeroCs (.cells #[.nilIface] 37)
  rw [World.size_alloc] at h3
  exact ⟨hk.at0 (k1.at0 (heap_alloc_new w _)),hk.at0 (k2.at0 (heap_al_al _ _ _)),hk.at0 (by rw [hW1];exact h3)⟩
 have RC:Hid (∀ ww,Same0 W1 ww→ww.cell? ⟨w.heap.size,0,none⟩=some (.int .i64 n)∧(ww.cell? ⟨w.heap.size+1,0,none⟩=some (.int .i64 0)∧ww.cell? ⟨w.heap.size+1,1,none⟩=some (.int .i64 0)∧ww.cell? ⟨w.heap.size+1,2,none⟩=some (.slice none 0 0)∧ww.cell? ⟨w.heap.size+1,3,none⟩=some (.slice none 0 0))∧(ww.frozen? ⟨w.heap.size+1,0,none⟩=false∧ww.frozen? ⟨w.heap.size+1,1,none⟩=false∧ww.frozen? ⟨w.heap.size+1,2,none⟩=false∧ww.frozen? ⟨w.heap.size+1,3,none⟩=false)∧ww.cell? ⟨w.heap.size+1+1,0,none⟩=some .nilIface∧ww.frozen? ⟨w.heap.size+1+1,0,none⟩=false):=fun ww hk=>by
  obtain ⟨h1,h2,h3⟩:=BK.out ww hk
  exact ⟨cellAt h1 0,⟨cellAt h2 0,cellAt h2 1,cellAt h2 2,cellAt h2 3⟩,⟨frozenAt h2 0,frozenAt h2 1,frozenAt h2 2,frozenAt h2 3⟩,cellAt h3 0,frozenAt h3 0⟩
 have CS:Hid (∀ ww,Same0 w ww→Calls Tryz.prog 35 #[.pointer (some ⟨b,0,none⟩)] ww fun e w' => ∃ bt,e=.returned (.pointer (some ⟨bt,0,none⟩))∧Hid (Sg w'.heap.size w' bt L)∧Same0 ww w'):=fun ww hk=>by
  refine (ssig_any (h.same hk)).mono ?_
  rintro e w' ⟨bt,rfl,hb,sv,mr,h1,h2,h3⟩
  exact ⟨bt,rfl,⟨⟨sv,mr,h1,fun k hk=>sig_foot_lt h1 k hk⟩,h.sig.2⟩,h3⟩
 have HST:Hid (∀ ww,Same0 w ww→StAt ww b bs L R lv vs):=fun ww hk=>h.same hk
 have PUT:Hid (∀ ww x0 x1 x2 x3 y,Same0 W1 ww→((((((ww.setCell ⟨w.heap.size+1,0,none⟩ x0).setCell ⟨w.heap.size+1,1,none⟩ x1).setCell ⟨w.heap.size+1,2,none⟩ x2).setCell ⟨w.heap.size+1,3,none⟩ x3).setCell ⟨w.heap.size+1+1,0,none⟩ y)).cell? ⟨w.heap.size+1,0,none⟩=some x0∧((((((ww.setCell ⟨w.heap.size+1,0,none⟩ x0).setCell ⟨w.heap.size+1,1,none⟩ x1).setCell ⟨w.heap.size+1,2,none⟩ x2).setCell ⟨w.heap.size+1,3,none⟩ x3).setCell ⟨w.heap.size+1+1,0,none⟩ y)).cell? ⟨w.heap.size+1,1,none⟩=some x1∧((((((ww.setCell ⟨w.heap.size+1,0,none⟩ x0).setCell ⟨w.heap.size+1,1,none⟩ x1).setCell ⟨w.heap.size+1,2,none⟩ x2).setCell ⟨w.heap.size+1,3,none⟩ x3).setCell ⟨w.heap.size+1+1,0,none⟩ y)).cell? ⟨w.heap.size+1,2,none⟩=some x2∧((((((ww.setCell ⟨w.heap.size+1,0,none⟩ x0).setCell ⟨w.heap.size+1,1,none⟩ x1).setCell ⟨w.heap.size+1,2,none⟩ x2).setCell ⟨w.heap.size+1,3,none⟩ x3).setCell ⟨w.heap.size+1+1,0,none⟩ y)).cell? ⟨w.heap.size+1,3,none⟩=some x3∧((((((ww.setCell ⟨w.heap.size+1,0,none⟩ x0).setCell ⟨w.heap.size+1,1,none⟩ x1).setCell ⟨w.heap.size+1,2,none⟩ x2).setCell ⟨w.heap.size+1,3,none⟩ x3).setCell ⟨w.heap.size+1+1,0,none⟩ y)).cell? ⟨w.heap.size+1+1,0,none⟩=some y∧Kept (fun q=>q=w.heap.size+1∨q=w.heap.size+1+1) ww ((((((ww.setCell ⟨w.heap.size+1,0,none⟩ x0).setCell ⟨w.heap.size+1,1,none⟩ x1).setCell ⟨w.heap.size+1,2,none⟩ x2).setCell ⟨w.heap.size+1,3,none⟩ x3).setCell ⟨w.heap.size+1+1,0,none⟩ y))∧Same0 w ((((((ww.setCell ⟨w.heap.size+1,0,none⟩ x0).setCell ⟨w.heap.size+1,1,none⟩ x1).setCell ⟨w.heap.size+1,2,none⟩ x2).setCell ⟨w.heap.size+1,3,none⟩ x3).setCell ⟨w.heap.size+1+1,0,none⟩ y))):=by
  intro ww x0 x1 x2 x3 y hk
  obtain ⟨h1,h2,h3⟩:=BK.out ww hk
  have s3:=setAt (setAt (setAt (setAt h2 0 x0) 1 x1) 2 x2) 3 x3
  have k1:=Kept.setCell (p:=⟨w.heap.size+1,0,none⟩) (Kept.refl (fun q=>q=w.heap.size+1) ww) (fun _=>rfl) x0
  have k2:=Kept.setCell (p:=⟨w.heap.size+1,1,none⟩) k1 (fun _=>rfl) x1
  have k3:=Kept.setCell (p:=⟨w.heap.size+1,2,none⟩) k2 (fun _=>rfl) x2
  have k4:=Kept.setCell (p:=⟨w.heap.size+1,3,none⟩) k3 (fun _=>rfl) x3
  have h3' := k4.at h3 (fun e=>by omega)
  have s4:=setAt h3' 0 y
  have k5:=Kept.setCell (p:=⟨w.heap.size+1+1,0,none⟩) (Kept.refl (fun q=>q=w.heap.size+1+1) ((((ww.setCell ⟨w.heap.size+1,0,none⟩ x0).setCell ⟨w.heap.size+1,1,none⟩ x1).setCell ⟨w.heap.size+1,2,none⟩ x2).setCell ⟨w.heap.size+1,3,none⟩ x3)) (fun _=>rfl) y
  have s3' := k5.at s3 (fun e=>by omega)
  have kk:Kept (fun q=>q=w.heap.size+1∨q=w.heap.size+1+1) ww ((((((ww.setCell ⟨w.heap.size+1,0,none⟩ x0).setCell ⟨w.heap.size+1,1,none⟩ x1).setCell ⟨w.heap.size+1,2,none⟩ x2).setCell ⟨w.heap.size+1,3,none⟩ x3).setCell ⟨w.heap.size+1+1,0,none⟩ y)):=Kept.trans (k4.mono (fun _ _ e=>.inl e)) k5 (fun _ _ e=>.inr e)
  exact ⟨cellAt s3' 0,cellAt s3' 1,cellAt s3' 2,cellAt s3' 3,cellAt s4 0,kk,Kept.trans (KW.trans' hk) kk (fun i hi e=>by omega)⟩
 clear h
 have C1:=CS.out W1 KW
 cases hd:defB L n with
 | false=>
  have FIN:Hid (∀ ww v,Same0 w ww→FltAt ww [(80,0)] v→BldPost L R n w (.returned (.tuple #[zeroC,v])) ww):=fun ww v hk hf=>⟨hk,by rw [hd];exact ⟨v,rfl,hf⟩⟩
  have CD:Hid (∀ ww bt,Same0 W1 ww→Sg ww.heap.size ww bt L→Calls Tryz.prog 36 #[.pointer (some ⟨bt,0,none⟩),.int .i64 n] ww fun e w' => e=.returned (.bool false)∧Same0 ww w'):=fun ww bt hk hs=>by rw [← hd];exact tdef_any hs n
  clear hd
  go_enter Tryz.func8,Tryz.ntmps8
  go_upto_region 1 with fail
  rw [← hW1]
  clear hW1
  go_upto_region 4 with (first | (go_at_call 35;refine C1.mono ?_;rintro e w2 ⟨bt,rfl,hs2,k2⟩))
  obtain ⟨r0,_⟩:=RC.out w2 k2
  have C2:=CD.out w2 bt k2 hs2.out
  go_upto_region 5 with (first | (go_at_call 36;refine C2.mono ?_;rintro e w3 ⟨rfl,k3⟩))
  have k13:=k2.trans' k3
  have ka:Same0 W1 (w3.alloc (.cells #[.int .i64 80,.int .i64 0,.nilIface] 100)):=Kept.alloc k13 _
  obtain ⟨_,⟨q0,q1,q2,q3⟩,⟨f0,f1,f2,f3⟩,q4,f4⟩:=RC.out _ ka
  have PP:=PUT.out _ (.int .i64 0) (.int .i64 0) (.slice none 0 0) (.slice none 0 0) (.iface 98 (.pointer (some ⟨w3.heap.size,0,none⟩))) ka
  have PH:Hid _:=PP
  clear PP
  go_wp2_with fail
  obtain ⟨g0,g1,g2,g3,g4,kk,ks⟩:=PH.out
  have hf:=kk.at (heap_alloc_new w3 _) (fun e=>by have:=k13.size;omega)
  exact bodyPost_ret (v:=.tuple #[zeroC,.iface 98 (.pointer (some ⟨w3.heap.size,0,none⟩))]) (by simp [results,Tryz.results8,go_sem,g0,g1,g2,g3,g4]) rfl (FIN.out _ _ ks (.inr ⟨by omega,_,_,rfl,hf,rfl⟩))
 | true=>
  obtain ⟨s,hs,rfl⟩:∃ s:Nat,s<L.length∧n=(s:Int):=by
   by_cases hx:n<0∨(L.length:Int)≤n
   ·rw [defB_no hx] at hd;cases hd
   ·exact ⟨n.toNat,by omega,by omega⟩
  have CD:Hid (∀ ww bt,Same0 W1 ww→Sg ww.heap.size ww bt L→Calls Tryz.prog 36 #[.pointer (some ⟨bt,0,none⟩),.int .i64 (s:Int)] ww fun e w' => e=.returned (.bool true)∧Same0 ww w'):=fun ww bt hk hs=>by rw [← hd];exact tdef_any hs _
  have CR:Hid (∀ ww bt,Same0 W1 ww→Sg ww.heap.size ww bt L→Calls Tryz.prog 39 #[.pointer (some ⟨bt,0,none⟩),.pointer (some ⟨b,0,none⟩),.int .i64 (s:Int)] ww fun e w' => ∃ po pc ro rc,e=.returned (.agg #[.pointer (some ⟨bt,0,none⟩),.slice po (rootP L s).length pc,.slice ro (rootR L R s).length rc])∧Hid (NdIn w' L 2001 bt po pc (rootP L s) ro (rootR L R s))∧Same0 ww w'):=fun ww bt hk hg=>rootOf_any hg (HST.out ww (KW.trans' hk)) hs
  have CG:Hid (∀ ww bt po pc ro rc,NdIn ww L 2001 bt po pc (rootP L s) ro (rootR L R s)→Calls Tryz.prog 40 #[.agg #[.pointer (some ⟨bt,0,none⟩),.slice po (rootP L s).length pc,.slice ro (rootR L R s).length rc]] ww (TreeOut ww (treeF L R s))):=fun ww bt po pc ro rc hi=>tgrow_any L 2001 ww bt po pc _ ro rc _ hi
  cases ht:treeF L R s with
  | ok t=>
   rw [ht] at CG
   have CG2:Hid (∀ ww bt po pc ro rc,NdIn ww L 2001 bt po pc (rootP L s) ro (rootR L R s)→Calls Tryz.prog 40 #[.agg #[.pointer (some ⟨bt,0,none⟩),.slice po (rootP L s).length pc,.slice ro (rootR L R s).length rc]] ww fun e w' => ∃ tk tr tpo tpl tpc tko tkl tkc,e=.returned (.agg #[.int .i64 tk,.int .i64 tr,.slice tpo tpl tpc,.slice tko tkl tkc])∧Hid (CsB (fun b=>ww.heap.size≤b) w' 2001 (.agg #[.int .i64 tk,.int .i64 tr,.slice tpo tpl tpc,.slice tko tkl tkc]) t)∧Same0 ww w'):=fun ww bt po pc ro rc hi=>by
    refine (CG.out ww bt po pc ro rc hi).mono ?_
    rintro e w' ⟨v,rfl,h1,h2⟩
    obtain ⟨tk,tr,tpo,tpl,tpc,tko,tkl,tkc,rfl⟩:=h1.shape
    exact ⟨tk,tr,tpo,tpl,tpc,tko,tkl,tkc,rfl,h1,h2⟩
   have FIN:Hid (∀ ww v,Same0 w ww→CsB (fun b=>w.heap.size≤b) ww 2001 v t→BldPost L R (s:Int) w (.returned (.tuple #[v,.nilIface])) ww):=fun ww v hk hf=>⟨hk,by rw [if_pos hd];simp only [Int.toNat_natCast];rw [ht];exact ⟨v,rfl,hf⟩⟩
   clear hd CG ht
   go_enter_defers Tryz.func8,Tryz.ntmps8
   go_upto_region 1 with fail
   rw [← hW1]
   clear hW1
   go_upto_region 4 with (first | (go_at_call 35;refine C1.mono ?_;rintro e w2 ⟨bt,rfl,hs2,k2⟩))
   obtain ⟨r0,_⟩:=RC.out w2 k2
   have C2:=CD.out w2 bt k2 hs2.out
   go_upto_region 7 with (first | (go_at_call 36;refine C2.mono ?_;rintro e w3 ⟨rfl,k3⟩))
   have k13:=k2.trans' k3
   obtain ⟨r3,_⟩:=RC.out w3 k13
   have C3:=CR.out w3 bt k13 (sg_up (hs2.out.same k3) k3.size)
   go_wp2_with (first
    | (go_at_call 39;refine C3.mono ?_;rintro e w4 ⟨po,pc,ro,rc,rfl,hi,k4⟩;have C4:=CG2.out w4 bt po pc ro rc hi.out)
    | (go_at_call 40;refine C4.mono ?_;rintro e w5 ⟨tk,tr,tpo,tpl,tpc,tko,tkl,tkc,rfl,hcs,k5⟩;have k15:=(k13.trans' k4).trans' k5;obtain ⟨_,⟨q0,q1,q2,q3⟩,⟨f0,f1,f2,f3⟩,q4,f4⟩:=RC.out _ k15))
   have PH:Hid _:=PUT.out w5 (.int .i64 tk) (.int .i64 tr) (.slice tpo tpl tpc) (.slice tko tkl tkc) .nilIface k15
   refine leaves_cons (f:=37) (args:=#[.pointer (some ⟨w.heap.size,0,none⟩),.pointer (some ⟨w.heap.size+1+1,0,none⟩)]) (by simp) (by simp [go_sem]) ?_
   refine (catch_none _).mono ?_
   rintro e u' w'' ⟨rfl,rfl,rfl⟩
   obtain ⟨g0,g1,g2,g3,g4,kk,ks⟩:=PH.out
   have z4:=(k13.trans' k4).size
   simp [Leaves,settle,results,Tryz.results8,go_sem,g0,g1,g2,g3,g4]
   exact FIN.out _ _ ks (CsB.mono (fun b hb q=>by have:w4.heap.size≤b:=q;omega) (CsB.kept kk (fun b q e=>by have:w4.heap.size≤b:=q;omega) hcs.out))
  | error z=>
   rw [ht] at CG
   have hz:0≤z:=by
    refine growF_err (fun x hx=>?_) ht
    obtain ⟨y,hy,rfl⟩:=List.mem_map.1 hx
    obtain ⟨j,hj,rfl,_⟩:=rows_fact hok hy
    show (0:Int)≤(j:Int)
    omega
   have CG2:Hid (∀ ww bt po pc ro rc,NdIn ww L 2001 bt po pc (rootP L s) ro (rootR L R s)→Calls Tryz.prog 40 #[.agg #[.pointer (some ⟨bt,0,none⟩),.slice po (rootP L s).length pc,.slice ro (rootR L R s).length rc]] ww fun e w' => ∃ k,e=.panicked [{ v:=.iface 98 (.pointer (some ⟨k,0,none⟩)),recovered:=false }]∧Hid (w'.heap[k]? = some (.cells #[.int .i64 82,.int .i64 z,.nilIface] 100 (0,0)))∧Same0 ww w'):=fun ww bt po pc ro rc hi=>by
    refine (CG.out ww bt po pc ro rc hi).mono ?_
    rintro e w' ⟨⟨k,h1,h2⟩,h3⟩
    exact ⟨k,h1,h2,h3⟩
   have FIN:Hid (∀ ww v,Same0 w ww→FltAt ww [(81,(s:Int)),(82,z)] v→BldPost L R (s:Int) w (.returned (.tuple #[zeroC,v])) ww):=fun ww v hk hf=>⟨hk,by rw [if_pos hd];simp only [Int.toNat_natCast];rw [ht];exact ⟨v,rfl,hf⟩⟩
   clear hd CG ht
   go_enter_defers Tryz.func8,Tryz.ntmps8
   go_upto_region 1 with fail
   rw [← hW1]
   clear hW1
   go_upto_region 4 with (first | (go_at_call 35;refine C1.mono ?_;rintro e w2 ⟨bt,rfl,hs2,k2⟩))
   obtain ⟨r0,_⟩:=RC.out w2 k2
   have C2:=CD.out w2 bt k2 hs2.out
   go_upto_region 7 with (first | (go_at_call 36;refine C2.mono ?_;rintro e w3 ⟨rfl,k3⟩))
   have k13:=k2.trans' k3
   obtain ⟨r3,_⟩:=RC.out w3 k13
   have C3:=CR.out w3 bt k13 (sg_up (hs2.out.same k3) k3.size)
   go_wp2_with (first
    | (go_at_call 39;refine C3.mono ?_;rintro e w4 ⟨po,pc,ro,rc,rfl,hi,k4⟩;have C4:=CG2.out w4 bt po pc ro rc hi.out)
    | (go_at_call 40;refine C4.mono ?_;rintro e w5 ⟨k,rfl,hk,k5⟩))
   have k15:=(k13.trans' k4).trans' k5
   obtain ⟨x0,⟨q0,q1,q2,q3⟩,⟨f0,f1,f2,f3⟩,q4,f4⟩:=RC.out _ k15
   obtain ⟨b1,b2,b3⟩:=BK.out w5 k15
   refine leaves_cons (f:=37) (args:=#[.pointer (some ⟨w.heap.size,0,none⟩),.pointer (some ⟨w.heap.size+1+1,0,none⟩)]) (by simp) (by simp [go_sem]) ?_
   refine (catch_fork k w5 x0 b3 (by omega)).mono ?_
   rintro e u' w6 ⟨rfl,rfl,q,h1,h2,k6⟩
   have b2' := k6.at b2 (fun e=>by omega)
   have g0:=cellAt b2' 0
   have g1:=cellAt b2' 1
   have g2:=cellAt b2' 2
   have g3:=cellAt b2' 3
   have g4:=cellAt h2 0
   simp only [List.getElem?_toArray,List.getElem?_cons_zero,List.getElem?_cons_succ] at g0 g1 g2 g3 g4
   have hk6:=k6.at hk.out (fun e=>by subst e;have:=hk.out;rw [b3] at this;cases this)
   have ks:Same0 w w6:=Kept.trans (KW.trans' k15) k6 (fun i hi e=>by omega)
   simp [Leaves,settle,results,Tryz.results8,go_sem,g0,g1,g2,g3,g4]
   exact FIN.out _ _ ks (.inr ⟨by omega,q,_,rfl,h1,.inr ⟨by omega,k,_,rfl,hk6,rfl⟩⟩)
end Go.Proofs.YtoajbpmgoklflaaGreat
namespace Go.Proofs.YtoajbpmgoklflaaGreat
set_option maxRecDepth 100000
set_option linter.unusedVariables false
open Go.RowKit
def OwC (B:Nat→Prop) (w:World) (po:Option Addr) (p:List Int) (pc:Nat) (kv:Value) (n:Nat):Prop:=
 ArgT w po p pc∧(∀ a,po=some a→B a.block)∧(∃ us,w.ownsRow 0 89 5 kv n us)∧∀ g,kv.ownBlock=some g→B g
def CsO (B:Nat→Prop) (w:World):(n:Nat)→Value→Tr n→Prop
 | 0,_,_=>False
 | n+1,v,(k,r,p,l)=>∃ po pc ko kc,v=.agg #[.int .i64 k,.int .i64 r,.slice po p.length pc,.slice ko l.length kc]∧OwC B w po p pc (.slice ko l.length kc) l.length∧(ko=none→kc=0)∧l.length≤kc ∧
   (l=[]∨∃ (g:Nat) (β:Nat→Nat),ko=some ⟨g,0,none⟩∧B g∧g<w.heap.size∧(∀ i,β i≤β (i+1))∧∀ i (h:i<l.length),∃ c0 c1 c2 c3,w.cell? ⟨g,i * 5,none⟩=some (.int .i64 l[i].1)∧w.cell? ⟨g,i * 5+1,none⟩=some c0∧w.cell? ⟨g,i * 5+2,none⟩=some c1∧w.cell? ⟨g,i * 5+3,none⟩=some c2∧w.cell? ⟨g,i * 5+4,none⟩=some c3∧CsO (fun b=>(B b∧b≠g∧∀ a,po=some a→a.block≠b)∧β i≤b∧b<β (i+1)) w n (.agg #[c0,c1,c2,c3]) l[i].2)
theorem CsO.cs {w:World}:∀ {n:Nat} {B:Nat→Prop} {v:Value} {t:Tr n},CsO B w n v t→CsB B w n v t
 | 0,_,_,_,h=>h
 | n+1,B,v,(k,r,p,l),h=>by
  obtain ⟨po,pc,ko,kc,h1,h2,h4,h5,h6⟩:=h
  refine ⟨po,pc,ko,kc,h1,h2.1.1,.inr h2.2.1,h4,h5,h6.imp id ?_⟩
  rintro ⟨g,β,e,hb,hl,hm,hc⟩
  refine ⟨g,0,e,hb,hl,fun i hi=>?_⟩
  obtain ⟨c0,c1,c2,c3,q0,q1,q2,q3,q4,q5⟩:=hc i hi
  rw [Nat.zero_add]
  exact ⟨c0,c1,c2,c3,q0,q1,q2,q3,q4,CsB.mono (fun b _ q=>q.1.1) (CsO.cs q5)⟩
theorem OwC.kept {B S:Nat→Prop} {w w' : World} {po:Option Addr} {p:List Int} {pc:Nat} {kv:Value} {n:Nat} (h:OwC B w po p pc kv n) (hk:Kept S w w') (hS:∀ b,B b→¬ S b):OwC B w' po p pc kv n:=by
 obtain ⟨h1,h2,⟨us,h3⟩,h4⟩:=h
 have ne:∀ a,po=some a→¬ S a.block:=fun a e=>hS _ (h2 a e)
 refine ⟨⟨⟨h1.1.at'.kept hk ne,h1.1.cap', h1.1.nil,h1.1.size⟩,fun a e=>?_,fun a e=>?_⟩,h2,⟨us,hk.row h3 (fun k e=>hS _ (h4 k e))⟩,h4⟩
 ·obtain ⟨cur,hc⟩:=h1.2 a e
  exact ⟨cur,hk.at hc (ne a e)⟩
 ·obtain ⟨b,cur,rfl,hc,q⟩:=h1.own a e
  exact ⟨b,cur,rfl,hk.at hc (ne _ e),q⟩
theorem OwC.mono {B B' : Nat→Prop} {w:World} {po:Option Addr} {p:List Int} {pc:Nat} {kv:Value} {n:Nat} (h:OwC B w po p pc kv n) (hB:∀ b,b<w.heap.size→B b→B' b):OwC B' w po p pc kv n:=by
 obtain ⟨h1,h2,⟨us,h3⟩,h4⟩:=h
 refine ⟨h1,fun a e=>?_,⟨us,h3⟩,fun g e=>hB g (h3.lt g e).2 (h4 g e)⟩
 obtain ⟨cur,hc⟩:=h1.2 a e
 exact hB _ (lt_of_at hc) (h2 a e)
theorem CsO.kept {S:Nat→Prop} {w w' : World} (hk:Kept S w w'):∀ {n:Nat} {B:Nat→Prop} (hS:∀ b,B b→¬ S b) {v:Value} {t:Tr n},CsO B w n v t→CsO B w' n v t
 | 0,_,_,_,_,h=>h
 | n+1,B,hS,v,(k,r,p,l),h=>by
  obtain ⟨po,pc,ko,kc,h1,h2,h4,h5,h6⟩:=h
  refine ⟨po,pc,ko,kc,h1,h2.kept hk hS,h4,h5,h6.imp id ?_⟩
  rintro ⟨b,β,e,hb,hl,hm,hc⟩
  refine ⟨b,β,e,hb,Nat.lt_of_lt_of_le hl hk.size,hm,fun i hi=>?_⟩
  have nb:=hS b hb
  obtain ⟨c0,c1,c2,c3,q0,q1,q2,q3,q4,q5⟩:=hc i hi
  exact ⟨c0,c1,c2,c3,(hk.cell (p:=⟨b,i * 5,none⟩) hl nb).trans q0,(hk.cell (p:=⟨b,i * 5+1,none⟩) hl nb).trans q1,(hk.cell (p:=⟨b,i * 5+2,none⟩) hl nb).trans q2,(hk.cell (p:=⟨b,i * 5+3,none⟩) hl nb).trans q3,(hk.cell (p:=⟨b,i * 5+4,none⟩) hl nb).trans q4,CsO.kept hk (fun b' q=>hS b' q.1.1) q5⟩
theorem CsO.same {B:Nat→Prop} {w w' : World} {n:Nat} {v:Value} {t:Tr n} (h:CsO B w n v t) (hk:Same0 w w'):CsO B w' n v t:=CsO.kept hk (fun _ _ f=>f) h
theorem CsO.mono {w:World}:∀ {n:Nat} {B B' : Nat→Prop} (hB:∀ b,b<w.heap.size→B b→B' b) {v:Value} {t:Tr n},CsO B w n v t→CsO B' w n v t
 | 0,_,_,_,_,_,h=>h
 | n+1,B,B', hB,v,(k,r,p,l),h=>by
  obtain ⟨po,pc,ko,kc,h1,h2,h4,h5,h6⟩:=h
  refine ⟨po,pc,ko,kc,h1,h2.mono hB,h4,h5,h6.imp id ?_⟩
  rintro ⟨b,β,e,hb,hl,hm,hc⟩
  refine ⟨b,β,e,hB b hl hb,hl,hm,fun i hi=>?_⟩
  obtain ⟨c0,c1,c2,c3,q0,q1,q2,q3,q4,q5⟩:=hc i hi
  exact ⟨c0,c1,c2,c3,q0,q1,q2,q3,q4,CsO.mono (fun b' hb' q=>⟨⟨hB b' hb' q.1.1,q.1.2⟩,q.2⟩) q5⟩
theorem CsO.shape {B:Nat→Prop} {w:World} {n:Nat} {v:Value} {t:Tr n} (h:CsO B w n v t):∃ k r po pl pc ko kl kc,v=.agg #[.int .i64 k,.int .i64 r,.slice po pl pc,.slice ko kl kc]:=h.cs.shape
def KCelO (B:Nat→Prop) (w:World) (n:Nat) (us:List Value) (l:List (Int × Tr n)):Prop:=
 us.length=l.length * 5∧∃ β:Nat→Nat,(∀ i,β i≤β (i+1))∧∀ i (h:i<l.length),∃ c0 c1 c2 c3,us[i * 5]? = some (.int .i64 l[i].1)∧us[i * 5+1]? = some c0∧us[i * 5+2]? = some c1∧us[i * 5+3]? = some c2∧us[i * 5+4]? = some c3∧CsO (fun b=>B b∧β i≤b∧b<β (i+1)) w n (.agg #[c0,c1,c2,c3]) l[i].2
theorem KCelO.nil (B:Nat→Prop) (w:World) (n:Nat):KCelO B w n [] []:=⟨rfl,fun _=>0,fun _=>Nat.le_refl _,fun i h=>absurd h (by simp)⟩
theorem KCelO.kept {B S:Nat→Prop} {w w' : World} {n:Nat} {us:List Value} {l:List (Int × Tr n)} (h:KCelO B w n us l) (hk:Kept S w w') (hS:∀ b,B b→¬ S b):KCelO B w' n us l:=by
 obtain ⟨h1,β,h2,h3⟩:=h
 refine ⟨h1,β,h2,fun i hi=>?_⟩
 obtain ⟨c0,c1,c2,c3,q0,q1,q2,q3,q4,q5⟩:=h3 i hi
 exact ⟨c0,c1,c2,c3,q0,q1,q2,q3,q4,CsO.kept hk (fun b q=>hS b q.1) q5⟩
theorem KCelO.mono {B B' : Nat→Prop} {w:World} {n:Nat} {us:List Value} {l:List (Int × Tr n)} (h:KCelO B w n us l) (hB:∀ b,b<w.heap.size→B b→B' b):KCelO B' w n us l:=by
 obtain ⟨h1,β,h2,h3⟩:=h
 refine ⟨h1,β,h2,fun i hi=>?_⟩
 obtain ⟨c0,c1,c2,c3,q0,q1,q2,q3,q4,q5⟩:=h3 i hi
 exact ⟨c0,c1,c2,c3,q0,q1,q2,q3,q4,CsO.mono (fun b hb q=>⟨hB b hb q.1,q.2⟩) q5⟩
theorem KCelO.snoc {B:Nat→Prop} {H:Nat} {w:World} {n:Nat} {us:List Value} {l:List (Int × Tr n)} (h:KCelO (fun b=>B b∧b<H) w n us l) {s:Int} {t:Tr n} {c0 c1 c2 c3:Value} (ht:CsO (fun b=>B b∧H≤b) w n (.agg #[c0,c1,c2,c3]) t):KCelO B w n (us ++ [.int .i64 s,c0,c1,c2,c3]) (l ++ [(s,t)]):=by
 obtain ⟨h1,β,h2,h3⟩:=h
 have hmin:∀ i,min (β i) H≤min (β (i+1)) H:=fun i=>by have:=h2 i;omega
 refine ⟨by simp [h1];omega,fun i=>if i≤l.length then min (β i) H else max H w.heap.size,fun i=>?_,fun i hi=>?_⟩
 ·show (if i≤l.length then min (β i) H else max H w.heap.size)≤(if i+1≤l.length then min (β (i+1)) H else max H w.heap.size)
  have:=hmin i
  split <;> split <;> omega
 ·by_cases hl:i<l.length
  ·rw [List.getElem_append_left hl,List.getElem?_append_left (by rw [h1];omega),List.getElem?_append_left (by rw [h1];omega),List.getElem?_append_left (by rw [h1];omega),List.getElem?_append_left (by rw [h1];omega),List.getElem?_append_left (by rw [h1];omega)]
   obtain ⟨c0,c1,c2,c3,q0,q1,q2,q3,q4,q5⟩:=h3 i hl
   refine ⟨c0,c1,c2,c3,q0,q1,q2,q3,q4,CsO.mono (fun b hb q=>⟨q.1.1,?_⟩) q5⟩
   show (if i≤l.length then min (β i) H else max H w.heap.size)≤b∧b<(if i+1≤l.length then min (β (i+1)) H else max H w.heap.size)
   have:=q.1.2
   have:=q.2
   rw [if_pos (by omega),if_pos (by omega)]
   omega
  ·obtain rfl:i=l.length:=by simp at hi;omega
   refine ⟨c0,c1,c2,c3,?_,?_,?_,?_,?_,?_⟩
   any_goals (rw [List.getElem?_append_right (by rw [h1];omega),h1];simp [Nat.add_sub_cancel_left])
   have ht2:CsO (fun b=>B b∧(if l.length≤l.length then min (β l.length) H else max H w.heap.size)≤b∧b<(if l.length+1≤l.length then min (β (l.length+1)) H else max H w.heap.size)) w n (.agg #[c0,c1,c2,c3]) t:=CsO.mono (fun b hb q=>⟨q.1,by rw [if_pos (Nat.le_refl _)];have:=q.2;omega,by rw [if_neg (by omega)];omega⟩) ht
   simpa using ht2
theorem branch_co {B:Nat→Prop} {w:World} {n:Nat} {lv:Value} {us:List Value} {l:List (Int × Tr n)} {base:Nat} {po:Option Addr} (hr:w.ownsRow base 89 5 lv l.length us) (hu:KCelO (fun b=>B b∧lv.ownBlock≠some b∧∀ a,po=some a→a.block≠b) w n us l) (hB:∀ b,lv.ownBlock=some b→B b) {pc:Nat} {p:List Int} (hp:ArgT w po p pc) (hpB:∀ a,po=some a→B a.block) (k r:Int) :
  CsO B w (n+1) (.agg #[.int .i64 k,.int .i64 r,.slice po p.length pc,lv]) (k,r,p,l):=by
 have hr0:w.ownsRow 0 89 5 lv l.length us:=by
  refine ⟨hr.1,hr.2.imp id ?_⟩
  rintro ⟨g,cap,cur,e,_,q⟩
  exact ⟨g,cap,cur,e,Nat.zero_le _,q⟩
 rcases hr.2 with ⟨rfl,h0⟩ | ⟨g,cap,cur,rfl,_,hg,hle,_,_,ht⟩
 ·have e0:l=[]:=List.eq_nil_of_length_eq_zero h0
  subst e0
  exact ⟨po,pc,none,0,rfl,⟨hp,hpB,⟨us,hr0⟩,hB⟩,fun _=>rfl,Nat.le_refl _,.inl rfl⟩
 ·obtain ⟨hu1,β,hu2,hu3⟩:=hu
  refine ⟨po,pc,_,cap,rfl,⟨hp,hpB,⟨us,hr0⟩,hB⟩,(fun e=>by cases e),hle,.inr ⟨g,β,rfl,hB g rfl,lt_of_at hg,hu2,fun i hi=>?_⟩⟩
  obtain ⟨c0,c1,c2,c3,q0,q1,q2,q3,q4,q5⟩:=hu3 i hi
  have a0:=hr.cells (g:=g) rfl _ _ q0
  have a1:=hr.cells (g:=g) rfl _ _ q1
  have a2:=hr.cells (g:=g) rfl _ _ q2
  have a3:=hr.cells (g:=g) rfl _ _ q3
  have a4:=hr.cells (g:=g) rfl _ _ q4
  rw [addr_add] at a0 a1 a2 a3 a4
  rw [Nat.zero_add] at a0 a1 a2 a3 a4
  refine ⟨c0,c1,c2,c3,a0,a1,a2,a3,a4,CsO.mono (fun b hb q=>⟨⟨q.1.1,fun e=>?_,q.1.2.2⟩,q.2⟩) q5⟩
  subst e
  exact q.1.2.1 rfl
theorem leaf_co (B:Nat→Prop) (w:World) (n:Nat) (k r:Int):CsO B w (n+1) (.agg #[.int .i64 k,.int .i64 r,.slice none 0 0,.slice none 0 0]) (k,r,[],[]):=
 ⟨none,0,none,0,rfl,⟨⟨⟨.inl rfl,Nat.le_refl _,fun _=>⟨rfl,rfl⟩,by simp⟩,(fun a e=>by cases e),fun a e=>by cases e⟩,(fun a e=>by cases e),⟨[],World.ownsRow_nil _ _ _ _⟩,fun g e=>by cases e⟩,fun _=>rfl,Nat.le_refl _,.inl rfl⟩
def TreeOutO {n:Nat} (w:World) (r:Except Int (Tr n)) (e:Ending) (w' : World):Prop:=
 match r with
 | .ok t=>∃ v,e=.returned v∧CsO (fun b=>w.heap.size≤b) w' n v t∧Same0 w w'
 | .error z=>FkAt w' e z∧Same0 w w'
def GrowIHO (L:List Sym) (n:Nat):Prop:=∀ (w:World) (bs:Nat) (po:Option Addr) (pc:Nat) (P:List (List Int)) (ro:Option Addr) (rc:Nat) (R:List Rw),NdIn w L n bs po pc P ro R→Calls Tryz.prog 40 #[.agg #[.pointer (some ⟨bs,0,none⟩),.slice po P.length pc,.slice ro R.length rc]] w (TreeOutO w (growF L n P R))
end Go.Proofs.YtoajbpmgoklflaaGreat
