import Derived.Test.YtmjgnfkbnofjoaaGreatDoorSW14
import Derived.Test.YtmjgnfkbnofjoaaGreatDoorSW12
import Derived.Test.YtmjgnfkbnofjoaaGreatDoorSW07
import Derived.Test.YtmjgnfkbnofjoaaGreatDoorSW08
import Derived.Test.YtmjgnfkbnofjoaaGreatDoorSW04
import Derived.Test.YtmjgnfkbnofjoaaGreatDoorSW06
import Derived.Deep.RegionLaw
import Derived.Deep.AppendLies
namespace Go.Proofs.YtmjgnfkbnofjoaaGreatDoor
set_option maxRecDepth 100000
set_option linter.unusedVariables false
open Go.RowKit
attribute [local go_sem ↓] Go.wp_at_zero Go.wp_at_succ
set_option maxHeartbeats 1000000 in
theorem tdef_any {n b:Nat} {w:World} {L:List Sym} (h:Sg n w b L) (x:Int) :
  Calls Tryz.prog 88 #[.pointer (some ⟨b,0,none⟩),.int .i64 x] w fun e w' => e=.returned (.bool (defB L x))∧Same0 w w' := by
 by_cases hx:x<0∨(L.length:Int)≤x
 ·have H1:Hid (defB L x=false):=defB_no hx
  have c:=sg_at_no h hx
  clear h
  go_enter Tryz.func88,Tryz.ntmps88
  go_wp2_with (first | (go_at_call 128;refine c.mono ?_;rintro e w' ⟨rfl,hk⟩))
  go_ret
  exact ⟨by rw [H1.out];rfl,Kept.alloc hk _⟩
 ·obtain ⟨i,rfl⟩:∃ i:Nat,x=(i:Int):=⟨x.toNat,by omega⟩
  have hi:i<L.length:=by omega
  have H1:Hid (defB L (i:Int)=L[i].df):=defB_at hi
  have c:=sg_at_yes h hi
  clear h
  go_enter Tryz.func88,Tryz.ntmps88
  go_wp2_with (first | (go_at_call 128;refine c.mono ?_;rintro e w' ⟨rfl,hk⟩))
  go_ret
  exact ⟨by rw [H1.out];rfl,Kept.alloc hk _⟩
theorem assert_flt (v:Value) (w:World):(Instr.typeAssert (.iface 114 v) 20 114 true).run Tryz.prog w=.ok (.tuple #[v,.bool true]) w:=by kernel_rfl
set_option maxHeartbeats 1000000 in
theorem forkOf_any (k:Nat) (w:World):Calls Tryz.prog 90 #[.iface 114 (.pointer (some ⟨k,0,none⟩))] w fun e w' => e=.returned (.iface 114 (.pointer (some ⟨k,0,none⟩)))∧w' = w:=by
 have hta:=assert_flt (.pointer (some ⟨k,0,none⟩)) w
 go_enter Tryz.func90,Tryz.ntmps90
 go_wp2_with fail
 go_ret
 exact ⟨rfl,rfl⟩
theorem any_ne (v:Value) (w:World):(binOp .neq 20 (.iface 114 v) .nilIface).run Tryz.prog w=.ok (.bool true) w:=by kernel_rfl
theorem any_nil (w:World):(binOp .neq 20 .nilIface .nilIface).run Tryz.prog w=.ok (.bool false) w:=by kernel_rfl
set_option maxHeartbeats 2000000 in
theorem catch_fork {ps pe:Nat} {s:Int} (k:Nat) (w:World) (hs:w.cell? ⟨ps,0,none⟩=some (.int .i64 s)) {x:Value} (he:w.heap[pe]? = some (.cells #[x] 46 (0,0))) (hpe:¬ ps=pe) :
  CallsD Tryz.prog 89 #[.pointer (some ⟨ps,0,none⟩),.pointer (some ⟨pe,0,none⟩)] (.panicking [{ v:=.iface 114 (.pointer (some ⟨k,0,none⟩)),recovered:=false }]) w fun e u' w' =>
   e=.returned (.tuple #[])∧u' = .panicking [{ v:=.iface 114 (.pointer (some ⟨k,0,none⟩)),recovered:=true }]∧∃ q,w'.heap[q]? = some (.cells #[.int .i64 81,.int .i64 s,.iface 114 (.pointer (some ⟨k,0,none⟩))] 116 (0,0))∧w'.heap[pe]? = some (.cells #[.iface 114 (.pointer (some ⟨q,0,none⟩))] 46 (0,0))∧Kept (fun i=>i=pe) w w' := by
 have hne:=any_ne
 have hfk:=forkOf_any
 have c0:=cellAt he 0
 have f0:=frozenAt he 0
 simp only [List.getElem?_toArray,List.getElem?_cons_zero] at c0
 refine callsD_of_wpS Tryz.func89 rfl fun c₀ cs hu=>?_
 apply wpS_seq
 apply wpS_region
 simp [wpOpsS,go_sem,recoverD,hu,Tryz.ntmps89,Exit.thenS]
 apply wpS_of_wp
 have d0:w.drew.cell? ⟨ps,0,none⟩=some (.int .i64 s):=hs
 have fa:∀ o,(w.drew.alloc o).cell? ⟨pe,0,none⟩=some x:=fun o=>cell_al (w:=w.drew) c0 o
 have fz:∀ o,(w.drew.alloc o).frozen? ⟨pe,0,none⟩=false:=fun o=>frozenAt (Same0.at0 (Kept.alloc (Kept.drew (Kept.refl (fun _=>False) w)) o) he) 0
 have FIN:Hid (∃ q,((w.drew.alloc (.cells #[.int .i64 81,.int .i64 s,.iface 114 (.pointer (some ⟨k,0,none⟩))] 116)).setCell ⟨pe,0,none⟩ (.iface 114 (.pointer (some ⟨w.heap.size,0,none⟩)))).heap[q]? = some (.cells #[.int .i64 81,.int .i64 s,.iface 114 (.pointer (some ⟨k,0,none⟩))] 116 (0,0))∧((w.drew.alloc (.cells #[.int .i64 81,.int .i64 s,.iface 114 (.pointer (some ⟨k,0,none⟩))] 116)).setCell ⟨pe,0,none⟩ (.iface 114 (.pointer (some ⟨w.heap.size,0,none⟩)))).heap[pe]? = some (.cells #[.iface 114 (.pointer (some ⟨q,0,none⟩))] 46 (0,0))∧Kept (fun i=>i=pe) w ((w.drew.alloc (.cells #[.int .i64 81,.int .i64 s,.iface 114 (.pointer (some ⟨k,0,none⟩))] 116)).setCell ⟨pe,0,none⟩ (.iface 114 (.pointer (some ⟨w.heap.size,0,none⟩))))):=by
  have ka:Same0 w (w.drew.alloc (.cells #[.int .i64 81,.int .i64 s,.iface 114 (.pointer (some ⟨k,0,none⟩))] 116)):=Kept.alloc (Kept.drew (Kept.refl _ w)) _
  have ks:=Kept.setCell (p:=⟨pe,0,none⟩) (Kept.refl (fun i=>i=pe) (w.drew.alloc (.cells #[.int .i64 81,.int .i64 s,.iface 114 (.pointer (some ⟨k,0,none⟩))] 116))) (fun _=>rfl) (.iface 114 (.pointer (some ⟨w.heap.size,0,none⟩)))
  have hp:pe<w.heap.size:=lt_of_at he
  exact ⟨w.heap.size,ks.at (heap_alloc_new w.drew _) (fun e=>by omega),setAt (ka.at0 he) 0 _,Kept.trans ka.mono' ks (fun _ _ e=>e)⟩
 clear he
 go_wp2_with fail
 have fa1:=fa (.cells #[.int .i64 81,.int .i64 s,.iface 114 (.pointer (some ⟨k,0,none⟩))] 116)
 have fz1:=fz (.cells #[.int .i64 81,.int .i64 s,.iface 114 (.pointer (some ⟨k,0,none⟩))] 116)
 have fs1:(w.drew.alloc (.cells #[.int .i64 81,.int .i64 s,.iface 114 (.pointer (some ⟨k,0,none⟩))] 116)).cell? ⟨ps,0,none⟩=some (.int .i64 s):=cell_al (w:=w.drew) hs _
 have fs2:((w.drew.alloc (.cells #[.int .i64 81,.int .i64 s,.iface 114 (.pointer (some ⟨k,0,none⟩))] 116)).setCell ⟨pe,0,none⟩ (.iface 114 (.pointer (some ⟨w.heap.size,0,none⟩)))).cell? ⟨ps,0,none⟩=some (.int .i64 s):=by
  have ks:=Kept.setCell (p:=⟨pe,0,none⟩) (Kept.refl (fun i=>i=pe) (w.drew.alloc (.cells #[.int .i64 81,.int .i64 s,.iface 114 (.pointer (some ⟨k,0,none⟩))] 116))) (fun _=>rfl) (.iface 114 (.pointer (some ⟨w.heap.size,0,none⟩)))
  exact (ks.cell (p:=⟨ps,0,none⟩) (World.block_lt_of_cell? _ _ fs1) hpe).trans fs1
 have fa2:(w.alloc (.cells #[.int .i64 81,.int .i64 s,.iface 114 (.pointer (some ⟨k,0,none⟩))] 116)).cell? ⟨pe,0,none⟩=some x:=fa1
 have fz2:(w.alloc (.cells #[.int .i64 81,.int .i64 s,.iface 114 (.pointer (some ⟨k,0,none⟩))] 116)).frozen? ⟨pe,0,none⟩=false:=fz1
 clear fa fz
 refine wp_region_held_drew (S:=fun w' => w'.cell? ⟨ps,0,none⟩=some (.int .i64 s)) (by kernel_rfl) d0 (fun hHeld=>?_)
 refine wpAnyH_take (i:=0) (v:=.int .i64 s) rfl (by kernel_rfl) (by kernel_rfl) (by kernel_rfl) (fun _ _ _ h=>h) (.inl ⟨rfl,fun w' hS=>by simp [go_sem,hS]⟩) hHeld ?_
 refine wpAnyH_take (i:=1) (v:=.iface 114 (.pointer (some ⟨k,0,none⟩))) rfl (by kernel_rfl) (by kernel_rfl) (by kernel_rfl) (fun _ _ _ h=>h) (.inl ⟨rfl,fun w' hS=>by simp [go_sem]⟩) hHeld ?_
 refine wpAnyH_ready (rs:=[2]) (by kernel_rfl) (by simp) ?_
 refine AllReadyH.cons rfl (fun K hK=>?_) AllReadyH.nil
 refine step_callx rfl (hfk k w.drew) (by simp [go_sem]) ?_
 rintro e w2 ⟨rfl,rfl⟩
 refine ⟨_,rfl,?_⟩
 refine hK.out _ _ d0 (fun hHeld=>?_)
 clear hK K
 refine wpAnyH_take (i:=3) (v:=.agg #[.int .i64 81,.int .i64 s,.iface 114 (.pointer (some ⟨k,0,none⟩))]) rfl (by kernel_rfl) (by kernel_rfl) (by kernel_rfl) (fun _ _ _ h=>h) (.inl ⟨rfl,fun w' hS=>by simp [go_sem]⟩) hHeld ?_
 refine wpAnyH_ready (rs:=[4]) (by kernel_rfl) (by simp) ?_
 refine AllReadyH.cons rfl (fun K hK=>?_) AllReadyH.nil
 go_simp
 refine hK.out _ _ fs1 (fun hHeld=>?_)
 clear hK K
 refine wpAnyH_take (i:=5) (v:=.iface 114 (.pointer (some ⟨w.heap.size,0,none⟩))) rfl (by kernel_rfl) (by kernel_rfl) (by kernel_rfl) (fun _ _ _ h=>h) (.inl ⟨rfl,fun w' hS=>by simp [go_sem]⟩) hHeld ?_
 refine wpAnyH_ready (rs:=[6]) (by kernel_rfl) (by simp) ?_
 refine AllReadyH.cons rfl (fun K hK=>?_) AllReadyH.nil
 go_simp
 refine hK.out _ _ fs2 (fun hHeld=>?_)
 clear hK K
 refine wpAnyH_done (by kernel_rfl) ?_ _
 go_wp2_with fail
 simp [go_sem,bodyPostS,results,Tryz.results89]
 exact FIN.out
set_option maxHeartbeats 2000000 in
theorem catch_none {ps pe:Nat} (w:World) :
  CallsD Tryz.prog 89 #[.pointer (some ⟨ps,0,none⟩),.pointer (some ⟨pe,0,none⟩)] .returning w fun e u' w' => e=.returned (.tuple #[])∧u' = .returning∧w' = w:=by
 have hne:=any_nil
 refine callsD_of_wpS Tryz.func89 rfl fun c₀ cs hu=>?_
 apply wpS_seq
 apply wpS_region
 simp [wpOpsS,go_sem,recoverD,hu,Tryz.ntmps89,Exit.thenS]
 apply wpS_of_wp
 go_wp2_with fail
 simp [go_sem,bodyPostS,results,Tryz.results89]
 cases c₀
 simp only at hu
 subst hu
 rfl
abbrev zeroC:Value:=.agg #[.int .i64 0,.int .i64 0,.slice none 0 0,.slice none 0 0]
def treeF (L:List Sym) (R:List Ru) (s:Nat):Except Int (Tr 2001):=growF L 2001 (rootP L s) (rootR L R s)
def BldPost (L:List Sym) (R:List Ru) (n:Int) (w:World) (e:Ending) (w' : World):Prop:=
 Same0 w w' ∧ if defB L n=true then
  (match treeF L R n.toNat with
  | .ok t=>∃ v,e=.returned (.tuple #[v,.nilIface])∧CsB (fun b=>w.heap.size≤b) w' 2001 v t
  | .error z=>∃ v,e=.returned (.tuple #[zeroC,v])∧FltAt w' [(81,n),(82,z)] v)
 else ∃ v,e=.returned (.tuple #[zeroC,v])∧FltAt w' [(80,0)] v
theorem ptr_nil (b:Nat) (w:World):(binOp .eql 43 (.pointer (some ⟨b,0,none⟩)) (.pointer none)).run Tryz.prog w=.ok (.bool false) w:=by kernel_rfl
theorem kidsN_err {α:Type} {has:Nat→Bool} {g:Nat→Except Int α} {z:Int}:∀ {k:Nat},kidsN has g k=.error z→∃ j,g j=.error z
 | 0,h=>by cases h
 | k+1,h=>by
  rw [kidsN] at h
  cases hk:kidsN has g k with
  | error e=>rw [hk] at h;cases h;exact kidsN_err hk
  | ok l=>
   rw [hk] at h
   simp only at h
   split at h
   ·cases hg:g k with
    | error e=>rw [hg] at h;cases h;exact ⟨k,hg⟩
    | ok t=>rw [hg] at h;cases h
   ·cases h
theorem growF_err {L:List Sym} {z:Int}:∀ {n:Nat} {P:List (List Int)} {R:List Rw},(∀ x∈R,0≤x.1)→growF L n P R=.error z→0≤z
 | 0,P,R,hR,h=>by rw [growF] at h;cases h;omega
 | n+1,P,R,hR,h=>by
  have hh:¬ R.length=0→0≤(R.headD (0,[],[])).1:=fun h0=>by
   cases R with
   | nil=>simp at h0
   | cons x r=>exact hR x (List.mem_cons_self ..)
  by_cases h0:R.length=0
  ·rw [growF_zero h0] at h;cases h
  ·cases hp:partN R P.length with
   | some c=>
    rw [growF_branch h0 hp] at h
    unfold BrF at h
    cases hk:KidsF L n P R c L.length with
    | ok l=>rw [hk] at h;cases h
    | error e=>
     rw [hk] at h
     cases h
     obtain ⟨j,hj⟩:=kidsN_err hk
     refine growF_err (fun x hx=>?_) hj
     obtain ⟨y,hy,rfl⟩:=List.mem_map.1 hx
     exact hR y (havR_mem hy).1
   | none=>
    by_cases h1:R.length=1
    ·rw [growF_leaf h1 hp] at h;cases h
    ·rw [growF_fork h0 h1 hp] at h;cases h;exact hh h0
set_option maxHeartbeats 16000000 in
theorem build_any {w:World} {b bs:Nat} {L:List Sym} {R:List Ru} {lv:Value} {vs:List Value} (h:StAt w b bs L R lv vs) (n:Int) :
  Calls Tryz.prog 52 #[.pointer (some ⟨b,0,none⟩),.int .i64 n] w (BldPost L R n w):=by
 have hpn:=ptr_nil
 have hle:=h.le
 have hok:=h.ok
 obtain ⟨W1,hW1⟩:∃ W1,W1=((w.alloc (.cells #[.int .i64 n] 3)).alloc zeroCs).alloc (.cells #[.nilIface] 46):=⟨_,rfl⟩
 have KW:Same0 w W1:=by rw [hW1];exact (((Kept.refl _ w).alloc _).alloc _).alloc _
 have ez:W1.heap.size=w.heap.size+1+1+1:=by rw [hW1];simp
 have BK:Hid (∀ ww,Same0 W1 ww→ww.heap[w.heap.size]? = some (.cells #[.int .i64 n] 3 (0,0))∧ww.heap[w.heap.size+1]? = some (.cells #[.int .i64 0,.int .i64 0,.slice none 0 0,.slice none 0 0] 63 (0,0))∧ww.heap[w.heap.size+1+1]? = some (.cells #[.nilIface] 46 (0,0))):=fun ww hk=>by
  have k1:Same0 (w.alloc (.cells #[.int .i64 n] 3)) W1:=by rw [hW1];exact ((Kept.refl _ _).alloc _).alloc _
  have k2:Same0 ((w.alloc (.cells #[.int .i64 n] 3)).alloc zeroCs) W1:=by rw [hW1];exact (Kept.refl _ _).alloc _
  have h3:=heap_al_al (w.alloc (.cells #[.int .i64 n] 3)) zeroCs (.cells #[.nilIface] 46)
  rw [World.size_alloc] at h3
  exact ⟨hk.at0 (k1.at0 (heap_alloc_new w _)),hk.at0 (k2.at0 (heap_al_al _ _ _)),hk.at0 (by rw [hW1];exact h3)⟩
 have RC:Hid (∀ ww,Same0 W1 ww→ww.cell? ⟨w.heap.size,0,none⟩=some (.int .i64 n)∧(ww.cell? ⟨w.heap.size+1,0,none⟩=some (.int .i64 0)∧ww.cell? ⟨w.heap.size+1,1,none⟩=some (.int .i64 0)∧ww.cell? ⟨w.heap.size+1,2,none⟩=some (.slice none 0 0)∧ww.cell? ⟨w.heap.size+1,3,none⟩=some (.slice none 0 0))∧(ww.frozen? ⟨w.heap.size+1,0,none⟩=false∧ww.frozen? ⟨w.heap.size+1,1,none⟩=false∧ww.frozen? ⟨w.heap.size+1,2,none⟩=false∧ww.frozen? ⟨w.heap.size+1,3,none⟩=false)∧ww.cell? ⟨w.heap.size+1+1,0,none⟩=some .nilIface∧ww.frozen? ⟨w.heap.size+1+1,0,none⟩=false):=fun ww hk=>by
  obtain ⟨h1,h2,h3⟩:=BK.out ww hk
  exact ⟨cellAt h1 0,⟨cellAt h2 0,cellAt h2 1,cellAt h2 2,cellAt h2 3⟩,⟨frozenAt h2 0,frozenAt h2 1,frozenAt h2 2,frozenAt h2 3⟩,cellAt h3 0,frozenAt h3 0⟩
 have CS:Hid (∀ ww,Same0 w ww→Calls Tryz.prog 47 #[.pointer (some ⟨b,0,none⟩)] ww fun e w' => ∃ bt,e=.returned (.pointer (some ⟨bt,0,none⟩))∧Hid (Sg w'.heap.size w' bt L)∧Same0 ww w'):=fun ww hk=>by
  refine (ssig_any (h.same hk)).mono ?_
  rintro e w' ⟨bt,rfl,hb,sv,mr,h1,h2,h3⟩
  exact ⟨bt,rfl,⟨⟨sv,mr,h1,fun k hk=>sig_foot_lt h1 k hk⟩,h.sig.2⟩,h3⟩
 have HST:Hid (∀ ww,Same0 w ww→StAt ww b bs L R lv vs):=fun ww hk=>h.same hk
 have PUT:Hid (∀ ww x0 x1 x2 x3 y,Same0 W1 ww→((((((ww.setCell ⟨w.heap.size+1,0,none⟩ x0).setCell ⟨w.heap.size+1,1,none⟩ x1).setCell ⟨w.heap.size+1,2,none⟩ x2).setCell ⟨w.heap.size+1,3,none⟩ x3).setCell ⟨w.heap.size+1+1,0,none⟩ y)).cell? ⟨w.heap.size+1,0,none⟩=some x0∧((((((ww.setCell ⟨w.heap.size+1,0,none⟩ x0).setCell ⟨w.heap.size+1,1,none⟩ x1).setCell ⟨w.heap.size+1,2,none⟩ x2).setCell ⟨w.heap.size+1,3,none⟩ x3).setCell ⟨w.heap.size+1+1,0,none⟩ y)).cell? ⟨w.heap.size+1,1,none⟩=some x1∧((((((ww.setCell ⟨w.heap.size+1,0,none⟩ x0).setCell ⟨w.heap.size+1,1,none⟩ x1).setCell ⟨w.heap.size+1,2,none⟩ x2).setCell ⟨w.heap.size+1,3,none⟩ x3).setCell ⟨w.heap.size+1+1,0,none⟩ y)).cell? ⟨w.heap.size+1,2,none⟩=some x2∧((((((ww.setCell ⟨w.heap.size+1,0,none⟩ x0).setCell ⟨w.heap.size+1,1,none⟩ x1).setCell ⟨w.heap.size+1,2,none⟩ x2).setCell ⟨w.heap.size+1,3,none⟩ x3).setCell ⟨w.heap.size+1+1,0,none⟩ y)).cell? ⟨w.heap.size+1,3,none⟩=some x3∧((((((ww.setCell ⟨w.heap.size+1,0,none⟩ x0).setCell ⟨w.heap.size+1,1,none⟩ x1).setCell ⟨w.heap.size+1,2,none⟩ x2).setCell ⟨w.heap.size+1,3,none⟩ x3).setCell ⟨w.heap.size+1+1,0,none⟩ y)).cell? ⟨w.heap.size+1+1,0,none⟩=some y∧Kept (fun q=>q=w.heap.size+1∨q=w.heap.size+1+1) ww ((((((ww.setCell ⟨w.heap.size+1,0,none⟩ x0).setCell ⟨w.heap.size+1,1,none⟩ x1).setCell ⟨w.heap.size+1,2,none⟩ x2).setCell ⟨w.heap.size+1,3,none⟩ x3).setCell ⟨w.heap.size+1+1,0,none⟩ y))∧Same0 w ((((((ww.setCell ⟨w.heap.size+1,0,none⟩ x0).setCell ⟨w.heap.size+1,1,none⟩ x1).setCell ⟨w.heap.size+1,2,none⟩ x2).setCell ⟨w.heap.size+1,3,none⟩ x3).setCell ⟨w.heap.size+1+1,0,none⟩ y))):=by
  intro ww x0 x1 x2 x3 y hk
  obtain ⟨h1,h2,h3⟩:=BK.out ww hk
  have s3:=setAt (setAt (setAt (setAt h2 0 x0) 1 x1) 2 x2) 3 x3
  have k1:=Kept.setCell (p:=⟨w.heap.size+1,0,none⟩) (Kept.refl (fun q=>q=w.heap.size+1) ww) (fun _=>rfl) x0
  have k2:=Kept.setCell (p:=⟨w.heap.size+1,1,none⟩) k1 (fun _=>rfl) x1
  have k3:=Kept.setCell (p:=⟨w.heap.size+1,2,none⟩) k2 (fun _=>rfl) x2
  have k4:=Kept.setCell (p:=⟨w.heap.size+1,3,none⟩) k3 (fun _=>rfl) x3
  have h3' := k4.at h3 (fun e=>by omega)
  have s4:=setAt h3' 0 y
  have k5:=Kept.setCell (p:=⟨w.heap.size+1+1,0,none⟩) (Kept.refl (fun q=>q=w.heap.size+1+1) ((((ww.setCell ⟨w.heap.size+1,0,none⟩ x0).setCell ⟨w.heap.size+1,1,none⟩ x1).setCell ⟨w.heap.size+1,2,none⟩ x2).setCell ⟨w.heap.size+1,3,none⟩ x3)) (fun _=>rfl) y
  have s3' := k5.at s3 (fun e=>by omega)
  have kk:Kept (fun q=>q=w.heap.size+1∨q=w.heap.size+1+1) ww ((((((ww.setCell ⟨w.heap.size+1,0,none⟩ x0).setCell ⟨w.heap.size+1,1,none⟩ x1).setCell ⟨w.heap.size+1,2,none⟩ x2).setCell ⟨w.heap.size+1,3,none⟩ x3).setCell ⟨w.heap.size+1+1,0,none⟩ y)):=Kept.trans (k4.mono (fun _ _ e=>.inl e)) k5 (fun _ _ e=>.inr e)
  exact ⟨cellAt s3' 0,cellAt s3' 1,cellAt s3' 2,cellAt s3' 3,cellAt s4 0,kk,Kept.trans (KW.trans' hk) kk (fun i hi e=>by omega)⟩
 clear h
 have C1:=CS.out W1 KW
 cases hd:defB L n with
 | false=>
  have FIN:Hid (∀ ww v,Same0 w ww→FltAt ww [(80,0)] v→BldPost L R n w (.returned (.tuple #[zeroC,v])) ww):=fun ww v hk hf=>⟨hk,by rw [hd];exact ⟨v,rfl,hf⟩⟩
  have CD:Hid (∀ ww bt,Same0 W1 ww→Sg ww.heap.size ww bt L→Calls Tryz.prog 88 #[.pointer (some ⟨bt,0,none⟩),.int .i64 n] ww fun e w' => e=.returned (.bool false)∧Same0 ww w'):=fun ww bt hk hs=>by rw [← hd];exact tdef_any hs n
  clear hd
  go_enter Tryz.func52,Tryz.ntmps52
  go_upto_region 1 with fail
  rw [← hW1]
  clear hW1
  go_upto_region 4 with (first | (go_at_call 47;refine C1.mono ?_;rintro e w2 ⟨bt,rfl,hs2,k2⟩))
  obtain ⟨r0,_⟩:=RC.out w2 k2
  have C2:=CD.out w2 bt k2 hs2.out
  go_upto_region 5 with (first | (go_at_call 88;refine C2.mono ?_;rintro e w3 ⟨rfl,k3⟩))
  have k13:=k2.trans' k3
  have ka:Same0 W1 (w3.alloc (.cells #[.int .i64 80,.int .i64 0,.nilIface] 116)):=Kept.alloc k13 _
  obtain ⟨_,⟨q0,q1,q2,q3⟩,⟨f0,f1,f2,f3⟩,q4,f4⟩:=RC.out _ ka
  have PP:=PUT.out _ (.int .i64 0) (.int .i64 0) (.slice none 0 0) (.slice none 0 0) (.iface 114 (.pointer (some ⟨w3.heap.size,0,none⟩))) ka
  have PH:Hid _:=PP
  clear PP
  go_wp2_with fail
  obtain ⟨g0,g1,g2,g3,g4,kk,ks⟩:=PH.out
  have hf:=kk.at (heap_alloc_new w3 _) (fun e=>by have:=k13.size;omega)
  exact bodyPost_ret (v:=.tuple #[zeroC,.iface 114 (.pointer (some ⟨w3.heap.size,0,none⟩))]) (by simp [results,Tryz.results52,go_sem,g0,g1,g2,g3,g4]) rfl (FIN.out _ _ ks (.inr ⟨by omega,_,_,rfl,hf,rfl⟩))
 | true=>
  obtain ⟨s,hs,rfl⟩:∃ s:Nat,s<L.length∧n=(s:Int):=by
   by_cases hx:n<0∨(L.length:Int)≤n
   ·rw [defB_no hx] at hd;cases hd
   ·exact ⟨n.toNat,by omega,by omega⟩
  have CD:Hid (∀ ww bt,Same0 W1 ww→Sg ww.heap.size ww bt L→Calls Tryz.prog 88 #[.pointer (some ⟨bt,0,none⟩),.int .i64 (s:Int)] ww fun e w' => e=.returned (.bool true)∧Same0 ww w'):=fun ww bt hk hs=>by rw [← hd];exact tdef_any hs _
  have CR:Hid (∀ ww bt,Same0 W1 ww→Sg ww.heap.size ww bt L→Calls Tryz.prog 91 #[.pointer (some ⟨bt,0,none⟩),.pointer (some ⟨b,0,none⟩),.int .i64 (s:Int)] ww fun e w' => ∃ po pc ro rc,e=.returned (.agg #[.pointer (some ⟨bt,0,none⟩),.slice po (rootP L s).length pc,.slice ro (rootR L R s).length rc])∧Hid (NdIn w' L 2001 bt po pc (rootP L s) ro (rootR L R s))∧Same0 ww w'):=fun ww bt hk hg=>rootOf_any hg (HST.out ww (KW.trans' hk)) hs
  have CG:Hid (∀ ww bt po pc ro rc,NdIn ww L 2001 bt po pc (rootP L s) ro (rootR L R s)→Calls Tryz.prog 92 #[.agg #[.pointer (some ⟨bt,0,none⟩),.slice po (rootP L s).length pc,.slice ro (rootR L R s).length rc]] ww (TreeOut ww (treeF L R s))):=fun ww bt po pc ro rc hi=>tgrow_any L 2001 ww bt po pc _ ro rc _ hi
  cases ht:treeF L R s with
  | ok t=>
   rw [ht] at CG
   have CG2:Hid (∀ ww bt po pc ro rc,NdIn ww L 2001 bt po pc (rootP L s) ro (rootR L R s)→Calls Tryz.prog 92 #[.agg #[.pointer (some ⟨bt,0,none⟩),.slice po (rootP L s).length pc,.slice ro (rootR L R s).length rc]] ww fun e w' => ∃ tk tr tpo tpl tpc tko tkl tkc,e=.returned (.agg #[.int .i64 tk,.int .i64 tr,.slice tpo tpl tpc,.slice tko tkl tkc])∧Hid (CsB (fun b=>ww.heap.size≤b) w' 2001 (.agg #[.int .i64 tk,.int .i64 tr,.slice tpo tpl tpc,.slice tko tkl tkc]) t)∧Same0 ww w'):=fun ww bt po pc ro rc hi=>by
    refine (CG.out ww bt po pc ro rc hi).mono ?_
    rintro e w' ⟨v,rfl,h1,h2⟩
    obtain ⟨tk,tr,tpo,tpl,tpc,tko,tkl,tkc,rfl⟩:=h1.shape
    exact ⟨tk,tr,tpo,tpl,tpc,tko,tkl,tkc,rfl,h1,h2⟩
   have FIN:Hid (∀ ww v,Same0 w ww→CsB (fun b=>w.heap.size≤b) ww 2001 v t→BldPost L R (s:Int) w (.returned (.tuple #[v,.nilIface])) ww):=fun ww v hk hf=>⟨hk,by rw [if_pos hd];simp only [Int.toNat_natCast];rw [ht];exact ⟨v,rfl,hf⟩⟩
   clear hd CG ht
   go_enter_defers Tryz.func52,Tryz.ntmps52
   go_upto_region 1 with fail
   rw [← hW1]
   clear hW1
   go_upto_region 4 with (first | (go_at_call 47;refine C1.mono ?_;rintro e w2 ⟨bt,rfl,hs2,k2⟩))
   obtain ⟨r0,_⟩:=RC.out w2 k2
   have C2:=CD.out w2 bt k2 hs2.out
   go_upto_region 7 with (first | (go_at_call 88;refine C2.mono ?_;rintro e w3 ⟨rfl,k3⟩))
   have k13:=k2.trans' k3
   obtain ⟨r3,_⟩:=RC.out w3 k13
   have C3:=CR.out w3 bt k13 (sg_up (hs2.out.same k3) k3.size)
   go_wp2_with (first
    | (go_at_call 91;refine C3.mono ?_;rintro e w4 ⟨po,pc,ro,rc,rfl,hi,k4⟩;have C4:=CG2.out w4 bt po pc ro rc hi.out)
    | (go_at_call 92;refine C4.mono ?_;rintro e w5 ⟨tk,tr,tpo,tpl,tpc,tko,tkl,tkc,rfl,hcs,k5⟩;have k15:=(k13.trans' k4).trans' k5;obtain ⟨_,⟨q0,q1,q2,q3⟩,⟨f0,f1,f2,f3⟩,q4,f4⟩:=RC.out _ k15))
   have PH:Hid _:=PUT.out w5 (.int .i64 tk) (.int .i64 tr) (.slice tpo tpl tpc) (.slice tko tkl tkc) .nilIface k15
   refine leaves_cons (f:=89) (args:=#[.pointer (some ⟨w.heap.size,0,none⟩),.pointer (some ⟨w.heap.size+1+1,0,none⟩)]) (by simp) (by simp [go_sem]) ?_
   refine (catch_none _).mono ?_
   rintro e u' w'' ⟨rfl,rfl,rfl⟩
   obtain ⟨g0,g1,g2,g3,g4,kk,ks⟩:=PH.out
   have z4:=(k13.trans' k4).size
   simp [Leaves,settle,results,Tryz.results52,go_sem,g0,g1,g2,g3,g4]
   exact FIN.out _ _ ks (CsB.mono (fun b hb q=>by have:w4.heap.size≤b:=q;omega) (CsB.kept kk (fun b q e=>by have:w4.heap.size≤b:=q;omega) hcs.out))
  | error z=>
   rw [ht] at CG
   have hz:0≤z:=by
    refine growF_err (fun x hx=>?_) ht
    obtain ⟨y,hy,rfl⟩:=List.mem_map.1 hx
    obtain ⟨j,hj,rfl,_⟩:=rows_fact hok hy
    show (0:Int)≤(j:Int)
    omega
   have CG2:Hid (∀ ww bt po pc ro rc,NdIn ww L 2001 bt po pc (rootP L s) ro (rootR L R s)→Calls Tryz.prog 92 #[.agg #[.pointer (some ⟨bt,0,none⟩),.slice po (rootP L s).length pc,.slice ro (rootR L R s).length rc]] ww fun e w' => ∃ k,e=.panicked [{ v:=.iface 114 (.pointer (some ⟨k,0,none⟩)),recovered:=false }]∧Hid (w'.heap[k]? = some (.cells #[.int .i64 82,.int .i64 z,.nilIface] 116 (0,0)))∧Same0 ww w'):=fun ww bt po pc ro rc hi=>by
    refine (CG.out ww bt po pc ro rc hi).mono ?_
    rintro e w' ⟨⟨k,h1,h2⟩,h3⟩
    exact ⟨k,h1,h2,h3⟩
   have FIN:Hid (∀ ww v,Same0 w ww→FltAt ww [(81,(s:Int)),(82,z)] v→BldPost L R (s:Int) w (.returned (.tuple #[zeroC,v])) ww):=fun ww v hk hf=>⟨hk,by rw [if_pos hd];simp only [Int.toNat_natCast];rw [ht];exact ⟨v,rfl,hf⟩⟩
   clear hd CG ht
   go_enter_defers Tryz.func52,Tryz.ntmps52
   go_upto_region 1 with fail
   rw [← hW1]
   clear hW1
   go_upto_region 4 with (first | (go_at_call 47;refine C1.mono ?_;rintro e w2 ⟨bt,rfl,hs2,k2⟩))
   obtain ⟨r0,_⟩:=RC.out w2 k2
   have C2:=CD.out w2 bt k2 hs2.out
   go_upto_region 7 with (first | (go_at_call 88;refine C2.mono ?_;rintro e w3 ⟨rfl,k3⟩))
   have k13:=k2.trans' k3
   obtain ⟨r3,_⟩:=RC.out w3 k13
   have C3:=CR.out w3 bt k13 (sg_up (hs2.out.same k3) k3.size)
   go_wp2_with (first
    | (go_at_call 91;refine C3.mono ?_;rintro e w4 ⟨po,pc,ro,rc,rfl,hi,k4⟩;have C4:=CG2.out w4 bt po pc ro rc hi.out)
    | (go_at_call 92;refine C4.mono ?_;rintro e w5 ⟨k,rfl,hk,k5⟩))
   have k15:=(k13.trans' k4).trans' k5
   obtain ⟨x0,⟨q0,q1,q2,q3⟩,⟨f0,f1,f2,f3⟩,q4,f4⟩:=RC.out _ k15
   obtain ⟨b1,b2,b3⟩:=BK.out w5 k15
   refine leaves_cons (f:=89) (args:=#[.pointer (some ⟨w.heap.size,0,none⟩),.pointer (some ⟨w.heap.size+1+1,0,none⟩)]) (by simp) (by simp [go_sem]) ?_
   refine (catch_fork k w5 x0 b3 (by omega)).mono ?_
   rintro e u' w6 ⟨rfl,rfl,q,h1,h2,k6⟩
   have b2' := k6.at b2 (fun e=>by omega)
   have g0:=cellAt b2' 0
   have g1:=cellAt b2' 1
   have g2:=cellAt b2' 2
   have g3:=cellAt b2' 3
   have g4:=cellAt h2 0
   simp only [List.getElem?_toArray,List.getElem?_cons_zero,List.getElem?_cons_succ] at g0 g1 g2 g3 g4
   have hk6:=k6.at hk.out (fun e=>by subst e;have:=hk.out;rw [b3] at this;cases this)
   have ks:Same0 w w6:=Kept.trans (KW.trans' k15) k6 (fun i hi e=>by omega)
   simp [Leaves,settle,results,Tryz.results52,go_sem,g0,g1,g2,g3,g4]
   exact FIN.out _ _ ks (.inr ⟨by omega,q,_,rfl,h1,.inr ⟨by omega,k,_,rfl,hk6,rfl⟩⟩)
end Go.Proofs.YtmjgnfkbnofjoaaGreatDoor
namespace Go.Proofs.YtmjgnfkbnofjoaaGreatDoor
set_option maxRecDepth 100000
set_option linter.unusedVariables false
structure GL (n:Nat) (R:List Rw) (t:Tr n):Prop where
 len:(rulesF n t).length=R.length
 mem:∀ x∈R,x.1∈rulesF n t
 fl:(szT n t).2.2=if R.length=0 then 1 else 0
 br:(szT n t).2.1≤n * R.length
 lv:(szT n t).1=R.length
 b0:(szT n t).2.1=0→R.length≤1
 sm:SmK n t
def cntR (R:List Rw) (c:Nat) (k:Nat):Nat:=(R.filter (fun x=>decide (numR x c<(k:Int)))).length
theorem cntR_succ {R:List Rw} {c k:Nat} (h:∀ x∈R,0≤numR x c):cntR R c (k+1)=cntR R c k+(havR R c (k:Int)).length:=by
 unfold cntR havR
 induction R with
 | nil=>rfl
 | cons x r ih=>
  have h0:=ih (fun y hy=>h y (List.mem_cons_of_mem _ hy))
  have hx:=h x (List.mem_cons_self ..)
  by_cases h1:numR x c<(k:Int)
  ·have h2:numR x c<((k+1:Nat):Int):=by omega
   have h3:¬ numR x c=(k:Int):=by omega
   simp only [List.filter_cons,h1,h2,h3,decide_true,decide_false,if_true,Bool.false_eq_true,if_false,List.length_cons]
   omega
  ·by_cases h3:numR x c=(k:Int)
   ·have h2:numR x c<((k+1:Nat):Int):=by omega
    simp only [List.filter_cons,h3,decide_true,if_true,List.length_cons]
    have h4:((k:Int)<((k+1:Nat):Int)):=by omega
    simp only [h4,decide_true,if_true,List.length_cons,Int.lt_irrefl,decide_false,Bool.false_eq_true,if_false]
    omega
   ·have h2:¬ numR x c<((k+1:Nat):Int):=by omega
    simp only [List.filter_cons,h1,h2,h3,decide_false,Bool.false_eq_true,if_false]
    exact h0
structure KL (n:Nat) (R:List Rw) (c k:Nat) (l:List (Int × Tr n)):Prop where
 len:(l.flatMap (fun x=>rulesF n x.2)).length=cntR R c k
 mem:∀ x∈R,numR x c<(k:Int)→x.1∈l.flatMap (fun x=>rulesF n x.2)
 fl:(sum3 (fun x=>szT n x.2) l).2.2=0
 br:(sum3 (fun x=>szT n x.2) l).2.1≤n * cntR R c k
 lv:(sum3 (fun x=>szT n x.2) l).1=cntR R c k
 le:l.length≤k
 sm:∀ i (h:i<l.length),SmK n l[i].2
theorem kids_KL {L:List Sym} {n:Nat} {P:List (List Int)} {R:List Rw} {c:Nat} (h0:∀ x∈R,0≤numR x c) (IH:∀ s,s<L.length→havR R c (s:Int)≠[]→∀ t,growF L n (kidP L P c s) ((havR R c (s:Int)).map (kidX L c))=.ok t→GL n ((havR R c (s:Int)).map (kidX L c)) t):∀ k,k≤L.length→∀ l,KidsF L n P R c k=.ok l→KL n R c k l
 | 0,_,l,h=>by
  cases h
  have e:cntR R c 0=0:=by
   unfold cntR
   rw [List.length_eq_zero_iff,List.filter_eq_nil_iff]
   intro x hx
   have:=h0 x hx
   simp;omega
  exact ⟨by rw [e];rfl,fun x hx hn=>by have:=h0 x hx;omega,rfl,by simp [sum3],by rw [e];rfl,Nat.le_refl _,fun i hi=>absurd hi (by simp)⟩
 | k+1,hk,l,h=>by
  have hsucc:=cntR_succ (c:=c) (k:=k) h0
  cases hm:KidsF L n P R c k with
  | error e=>rw [KidsF_err hm (Nat.le_succ k)] at h;cases h
  | ok m=>
   have K:=kids_KL h0 IH k (by omega) m hm
   have hm' := hm
   unfold KidsF at hm' h
   rw [kidsN,hm'] at h
   simp only at h
   by_cases hh:0<(havR R c (k:Int)).length
   ·simp only [hh,decide_true,if_true] at h
    cases hg:growF L n (kidP L P c k) ((havR R c (k:Int)).map (kidX L c)) with
    | error e=>rw [hg] at h;cases h
    | ok t=>
     rw [hg] at h
     cases h
     have G:=IH k (by omega) (fun e=>by rw [e] at hh;simp at hh) t hg
     have hGl:=G.len
     rw [List.length_map] at hGl
     have hGv:=G.lv
     rw [List.length_map] at hGv
     have hGb:=G.br
     rw [List.length_map] at hGb
     have hGf:=G.fl
     rw [List.length_map,if_neg (by omega)] at hGf
     have efl:(m ++ [((k:Int),t)]).flatMap (fun x=>rulesF n x.2)=m.flatMap (fun x=>rulesF n x.2)++rulesF n t:=by simp
     have es:sum3 (fun x:Int × Tr n=>szT n x.2) (m ++ [((k:Int),t)])=add3 (sum3 (fun x=>szT n x.2) m) (szT n t):=by rw [sum3_append];simp [sum3,add3]
     refine ⟨?_,fun x hx hn=>?_,?_,?_,?_,?_,fun i hi=>?_⟩
     ·rw [efl,List.length_append,K.len,hGl,hsucc]
     ·rw [efl]
      by_cases hlt:numR x c<(k:Int)
      ·exact List.mem_append_left _ (K.mem x hx hlt)
      ·refine List.mem_append_right _ ?_
       have hx2:x∈havR R c (k:Int):=by
        unfold havR
        rw [List.mem_filter]
        exact ⟨hx,by simp;omega⟩
       exact G.mem (kidX L c x) (List.mem_map.2 ⟨x,hx2,rfl⟩)
     ·rw [es];simp only [add3];rw [K.fl,hGf]
     ·rw [es];simp only [add3];have:=K.br;rw [hsucc,Nat.mul_add];omega
     ·rw [es];simp only [add3];rw [K.lv,hGv,hsucc]
     ·have:=K.le;simp;omega
     ·by_cases hi2:i<m.length
      ·rw [List.getElem_append_left hi2];exact K.sm i hi2
      ·obtain rfl:i=m.length:=by simp at hi;omega
       simpa using G.sm
   ·simp only [hh,decide_false,Bool.false_eq_true,if_false] at h
    cases h
    have hz:(havR R c (k:Int)).length=0:=by omega
    rw [hz,Nat.add_zero] at hsucc
    refine ⟨by rw [hsucc];exact K.len,fun x hx hn=>?_,K.fl,by rw [hsucc];exact K.br,by rw [hsucc];exact K.lv,by have:=K.le;omega,K.sm⟩
    refine K.mem x hx ?_
    by_cases e:numR x c=(k:Int)
    ·have hx2:x∈havR R c (k:Int):=by
      unfold havR
      rw [List.mem_filter]
      exact ⟨hx,by simp [e]⟩
     rw [List.eq_nil_of_length_eq_zero hz] at hx2
     simp at hx2
    ·omega
theorem grow_GL {L:List Sym} (hA:Ars L) (hL:L.length≤64):∀ (n:Nat) (P:List (List Int)) (R:List Rw) (t:Tr n),NdOk L n P R→growF L n P R=.ok t→GL n R t
 | 0,P,R,t,h,_=>absurd h.pos (Nat.lt_irrefl 0)
 | n+1,P,R,t,h,hg=>by
  by_cases h0:R.length=0
  ·rw [growF_zero h0] at hg
   cases hg
   refine ⟨by simp [rulesF,h0],fun x hx=>?_,by simp [szT,kind3,add3,h0],by simp [szT,kind3,add3],by simp [szT,kind3,add3,h0],fun _=>by omega,by simp,fun i hi=>absurd hi (by simp)⟩
   rw [List.eq_nil_of_length_eq_zero h0] at hx;simp at hx
  ·cases hp:partN R P.length with
   | none=>
    by_cases h1:R.length=1
    ·rw [growF_leaf h1 hp] at hg
     cases hg
     refine ⟨by simp [rulesF,h1],fun x hx=>?_,by simp [szT,kind3,add3,h0],by simp [szT,kind3,add3],by simp [szT,kind3,add3,h1],fun _=>by omega,by simp,fun i hi=>absurd hi (by simp)⟩
     match R,h1 with
     | [y],_=>
      simp at hx
      subst hx
      simp [rulesF]
    ·rw [growF_fork h0 h1 hp] at hg;cases hg
   | some c=>
    rw [growF_branch h0 hp] at hg
    unfold BrF at hg
    cases hk:KidsF L n P R c L.length with
    | error e=>rw [hk] at hg;cases hg
    | ok l=>
     rw [hk] at hg
     cases hg
     obtain ⟨hc,hcon⟩:=partN_some hp
     have hn0:∀ x∈R,0≤numR x c:=fun x hx=>by
      unfold conB at hcon
      have:=List.all_eq_true.1 hcon x hx
      simpa using this
     have hnL:∀ x∈R,numR x c<(L.length:Int):=fun x hx=>by
      obtain ⟨k1,k2,k3,_⟩:=h.ok x hx
      have hc' : c<x.2.2.length:=by omega
      have hp' := k3 _ (List.getElem_mem hc')
      rw [numR_eq hc' hp']
      exact (badE_zero.1 (checkE_zero.1 k1).2.1 _ (List.getElem_mem hp')).1
     have K:=kids_KL hn0 (fun s hs hne t ht=>grow_GL hA hL n _ _ t (h.kid hc hs (arN_le hA _) hne) ht) L.length (Nat.le_refl _) l hk
     have hall:cntR R c L.length=R.length:=by
      unfold cntR
      rw [List.filter_eq_self.2 (fun x hx=>by simpa using hnL x hx)]
     have er:rulesF (n+1) (2,0,P.getD c [],l)=l.flatMap (fun x=>rulesF n x.2):=by simp [rulesF]
     have es:szT (n+1) (2,0,P.getD c [],l)=add3 (0,1,0) (sum3 (fun x=>szT n x.2) l):=by simp [szT,kind3]
     refine ⟨?_,fun x hx=>?_,?_,?_,?_,fun e=>?_,?_,K.sm⟩
     ·rw [er,K.len,hall]
     ·rw [er];exact K.mem x hx (hnL x hx)
     ·rw [es,if_neg h0];simp only [add3];rw [K.fl]
     ·rw [es];simp only [add3];have:=K.br;rw [hall] at this;rw [Nat.add_mul];omega
     ·rw [es];simp only [add3];rw [K.lv,hall];omega
     ·rw [es] at e;simp only [add3] at e;omega
     ·have:=K.le;omega
def K3:(n:Nat)→Tr n→Prop
 | 0,_=>True
 | n+1,(k,r,p,l)=>(k=1∨k=2∨k=3)∧∀ x∈l,K3 n x.2
theorem kids_K3 {L:List Sym} {n:Nat} {P:List (List Int)} {R:List Rw} {c:Nat} (IH:∀ P R t,growF L n P R=.ok t→K3 n t):∀ k l,KidsF L n P R c k=.ok l→∀ x∈l,K3 n x.2
 | 0,l,h=>by cases h;simp
 | k+1,l,h=>by
  unfold KidsF kidsN at h
  cases hk:KidsF L n P R c k with
  | error e=>unfold KidsF at hk;rw [hk] at h;cases h
  | ok m=>
   have hm:=kids_K3 IH k m hk
   unfold KidsF at hk
   rw [hk] at h
   simp only at h
   split at h
   ·split at h
    ·cases h
    ·rename_i t ht
     cases h
     intro x hx
     rcases List.mem_append.1 hx with q | q
     ·exact hm x q
     ·simp only [List.mem_singleton] at q
      rw [q]
      exact IH _ _ _ ht
   ·cases h;exact hm
theorem grow_K3 {L:List Sym}:∀ (n:Nat) (P:List (List Int)) (R:List Rw) (t:Tr n),growF L n P R=.ok t→K3 n t
 | 0,P,R,t,h=>trivial
 | n+1,P,R,t,h=>by
  by_cases h0:R.length=0
  ·rw [growF_zero h0] at h
   cases h
   exact ⟨.inr (.inr rfl),by simp⟩
  ·cases hp:partN R P.length with
   | none=>
    by_cases h1:R.length=1
    ·rw [growF_leaf h1 hp] at h
     cases h
     exact ⟨.inl rfl,by simp⟩
    ·rw [growF_fork h0 h1 hp] at h;cases h
   | some c=>
    rw [growF_branch h0 hp] at h
    unfold BrF at h
    cases hk:KidsF L n P R c L.length with
    | error e=>rw [hk] at h;cases h
    | ok l=>
     rw [hk] at h
     cases h
     exact ⟨.inr (.inl rfl),kids_K3 (grow_K3 n) _ _ hk⟩
def tot3 (a:T3):Nat:=a.1+a.2.1+a.2.2
theorem tot_add (a b:T3):tot3 (add3 a b)=tot3 a+tot3 b:=by simp [tot3,add3];omega
theorem szT_eq {n:Nat} (k r:Int) (p:List Int) (l:List (Int × Tr n)):szT (n+1) (k,r,p,l)=add3 (kind3 k) (if k=2 then sum3 (fun x=>szT n x.2) l else (0,0,0)):=rfl
theorem K3_eq {n:Nat} (k r:Int) (p:List Int) (l:List (Int × Tr n)):K3 (n+1) (k,r,p,l)=((k=1∨k=2∨k=3)∧∀ x∈l,K3 n x.2):=rfl
theorem insN_kids {n:Nat} (h:∀ t:Tr n,K3 n t→insN n t+1≤4 * tot3 (szT n t)):∀ l:List (Int × Tr n),(∀ x∈l,K3 n x.2)→sumN (l.map (fun x=>insN n x.2))+l.length≤4 * tot3 (sum3 (fun x=>szT n x.2) l)
 | [],_=>by simp [sumN,sum3,tot3]
 | x :: r,hx=>by
  have a:=h x.2 (hx x (List.mem_cons_self ..))
  have b:=insN_kids h r (fun y hy=>hx y (List.mem_cons_of_mem _ hy))
  simp only [List.map_cons,sumN,sum3,tot_add,List.length_cons]
  omega
theorem insN_le:∀ (n:Nat) (t:Tr (n+1)),K3 (n+1) t→insN (n+1) t+1≤4 * tot3 (szT (n+1) t)
 | n,(k,r,p,l),h=>by
  rw [K3_eq] at h
  obtain ⟨hk,hl⟩:=h
  rw [insN_eq,szT_eq,tot_add]
  rcases hk with rfl | rfl | rfl
  ·rw [if_neg (by decide),if_neg (by decide)];simp [kind3,tot3]
  ·rw [if_pos rfl,if_pos rfl]
   have e1:tot3 (kind3 2)=1:=rfl
   rw [e1]
   cases n with
   | zero=>
    have:l=[]:=by
     cases l with
     | nil=>rfl
     | cons x r=>exact (x.2:Empty).elim
    subst this
    simp [sumN,sum3,tot3]
   | succ n=>
    have:=insN_kids (insN_le n) l hl
    omega
  ·rw [if_neg (by decide),if_neg (by decide)];simp [kind3,tot3]
theorem tree_small {L:List Sym} (hA:Ars L) (hL:L.length≤64) {R:List Ru} (hle:R.length≤100) (hok:∀ x∈R,checkE L x.1=0∧checkE L x.2=0) {s:Nat} (hs:s<L.length) {t:Tr 2001} (h:treeF L R s=.ok t):insN 2001 t≤1000000:=by
 have hN:=root_ok hA hle hok hs
 have G:GL 2001 (rootR L R s) t:=grow_GL hA hL 2001 _ _ t hN h
 have hR:=hN.le
 have h1:insN 2001 t+1≤4 * tot3 (szT 2001 t):=insN_le 2000 t (grow_K3 2001 _ _ t h)
 have h2:=G.lv
 have h3:=G.br
 have h4:=G.fl
 have h5:(szT 2001 t).2.2≤1:=by rw [h4];split <;> omega
 have h6:2001 * (rootR L R s).length≤2001 * 100:=Nat.mul_le_mul_left _ hR
 simp only [tot3] at h1
 omega
def cmpS (L:List Sym) (R:List Ru):Nat→St9 × List Int
 | 0=>(([],[]),[])
 | k+1=>if defB L (k:Int)=true then (match treeF L R k with | .ok t=>(layS 2001 t (cmpS L R k).1,(cmpS L R k).2 ++ [((cmpS L R k).1.1.length:Int)]) | .error _=>((cmpS L R k).1,(cmpS L R k).2)) else ((cmpS L R k).1,(cmpS L R k).2 ++ [-1])
theorem cmpS_no {L:List Sym} {R:List Ru} {k:Nat} (h:defB L (k:Int)=false):cmpS L R (k+1)=((cmpS L R k).1,(cmpS L R k).2 ++ [-1]):=by rw [cmpS,if_neg (by rw [h];simp)]
theorem cmpS_yes {L:List Sym} {R:List Ru} {k:Nat} (h:defB L (k:Int)=true) {t:Tr 2001} (ht:treeF L R k=.ok t):cmpS L R (k+1)=(layS 2001 t (cmpS L R k).1,(cmpS L R k).2 ++ [((cmpS L R k).1.1.length:Int)]):=by rw [cmpS,if_pos h,ht]
theorem cmpS_small {L:List Sym} (hA:Ars L) (hL:L.length≤64) {R:List Ru} (hle:R.length≤100) (hok:∀ x∈R,checkE L x.1=0∧checkE L x.2=0):∀ k,k≤L.length→(cmpS L R k).1.1.length+(cmpS L R k).1.2.length≤k * 1000000∧(cmpS L R k).2.length≤k
 | 0,_=>by simp [cmpS]
 | k+1,hk=>by
  obtain ⟨a,b⟩:=cmpS_small hA hL hle hok k (by omega)
  cases hd:defB L (k:Int) with
  | false=>
   rw [cmpS_no hd]
   simp only [List.length_append,List.length_cons,List.length_nil]
   omega
  | true=>
   cases ht:treeF L R k with
   | error z=>
    rw [cmpS,if_pos hd,ht]
    simp only
    omega
   | ok t=>
    rw [cmpS_yes hd ht]
    have h1:=tree_small hA hL hle hok (s:=k) (by omega) ht
    have h2:=(layS_len 2001 t (cmpS L R k).1).1
    simp only [List.length_append,List.length_cons,List.length_nil]
    omega
end Go.Proofs.YtmjgnfkbnofjoaaGreatDoor
namespace Go.Proofs.YtmjgnfkbnofjoaaGreatDoor
set_option maxRecDepth 100000
set_option linter.unusedVariables false
open Go.RowKit
attribute [local go_sem ↓] Go.wp_at_zero Go.wp_at_succ
theorem kept_at (w:World) (b o:Nat) (u:Value):Kept (fun k=>k=b) w (w.setCell ⟨b,o,none⟩ u):=Kept.setCell (p:=⟨b,o,none⟩) (Kept.refl (fun k=>k=b) w) (fun _=>rfl) u
structure Lent7 (base:Nat) (w:World) (v:Value) (l:List Ru) (k:Nat) (vs:List Value) (f:Nat→Nat):Prop where
 row:w.ownsRow base 90 2 v k vs
 le:k≤l.length
 lo:∀ i,i<k * 2→base≤f i∧f i<w.heap.size
 up:∀ i j,i<j→j<k * 2→f i<f j
 one:∀ i (h:i<l.length),i<k→vs[i * 2]? = some (.slice (some ⟨f (i * 2),0,none⟩) l[i].1.length (l[i].1.length+1))∧Row base w (.slice (some ⟨f (i * 2),0,none⟩) (l[i].1.length+1) (l[i].1.length+1)) (l[i].1 ++ [77])
 two:∀ i (h:i<l.length),i<k→vs[i * 2+1]? = some (.slice (some ⟨f (i * 2+1),0,none⟩) l[i].2.length (l[i].2.length+1))∧Row base w (.slice (some ⟨f (i * 2+1),0,none⟩) (l[i].2.length+1) (l[i].2.length+1)) (l[i].2 ++ [78])
structure Left7 (base:Nat) (w:World) (gv:Nat) (l:List Ru) (k:Nat) (f:Nat→Nat):Prop where
 blk:∃ cur,w.heap[gv]? = some (.cells cur 90 (0,0))∧l.length * 2≤cur.size∧∀ i (h:i<l.length),k≤i→cur[i * 2]? = some (.slice (some ⟨f (i * 2),0,none⟩) l[i].1.length (l[i].1.length+1))∧cur[i * 2+1]? = some (.slice (some ⟨f (i * 2+1),0,none⟩) l[i].2.length (l[i].2.length+1))
 ge:base≤gv∧∀ i,i<l.length * 2→base≤f i
 up:∀ i j,i<j→j<l.length * 2→f i<f j
 one:∀ i (h:i<l.length),k≤i→Row base w (.slice (some ⟨f (i * 2),0,none⟩) (l[i].1.length+1) (l[i].1.length+1)) (l[i].1 ++ [77])
 two:∀ i (h:i<l.length),k≤i→Row base w (.slice (some ⟨f (i * 2+1),0,none⟩) (l[i].2.length+1) (l[i].2.length+1)) (l[i].2 ++ [78])
theorem step_ownT {wb W : World} {ops : Array Oper} {o : Oper} {a : Act} {K : Act → World → Prop} {Q : Exit → Act → World → Prop} {E : Prop} (hgd : o.guard = none) (s x : Operand)
    (ho : o.op = .call { callee := .builtin .append, args := #[s, x], argTypes := #[74, 74] })
    (B : Nat) (hs : a.eval s = .slice (some ⟨B, 0, none⟩) 0 0) (ys : List Int) (ad : Addr) (c : Nat) (hx : a.eval x = .slice (some ad) ys.length c)
    (hW : Same0 wb W) (hB : W.heap[B]? = some (.cells #[] 3 (0, 0))) (hb : wb.heap.size ≤ B) (hy : IntsAt wb (some ad) ys) (hn : 0 < ys.length) (hsz : ys.length ≤ 2000)
    (h : ∀ g cap w', TmAt w' g cap ys → wb.heap.size ≤ g → Same0 wb w' → (∀ g2 c2 zs, TmAt W g2 c2 zs → 0 < zs.length → TmAt w' g2 c2 zs) → (∀ q o, q ≠ B → W.heap[q]? = some o → w'.heap[q]? = some o) → K (a.put o.dst (.slice (some ⟨g, 0, none⟩) ys.length cap)) w') :
    if Region.wanted o (yielded ops a.tmps) = true then Oper.wp Tryz.prog o a W K Q else E := by
  obtain ⟨i, hi, hz0, hz1, hz2⟩ := info_parts info_intT
  have hBl := lt_of_at hB
  refine step_append_lies _ hgd s x 74 ho wb.heap.size 3 i _ 1 8 Tryz.underlying74 hi hz0 hz1 hz2 rfl (by decide) (.slice (some ⟨B, 0, none⟩) 0 0) 0 [] hs ⟨rfl, .inr ⟨B, 0, #[], rfl, hb, hB, Nat.le_refl _, by unfold maxLen; omega, rfl, rfl⟩⟩ ad ys.length c (iv ys) hx (by rw [iv_length]; omega) (fun j u hj => ?_) (iv_oneCell ys) hn (by unfold maxLen; omega) (by omega) hW.size W.heap.size rfl ?_
  · obtain ⟨ad', e, hc⟩ := (hy.same hW).src (by have := (List.getElem?_eq_some_iff.1 hj).1; omega)
    cases e
    exact hc j u hj
  · intro g cap w' hown hgrow hat hlt
    have k : Kept (fun k => k = B) W w' := Kept.grown (Kept.refl _ W) hgrow (fun _ e _ => by simp only [Value.ownBlock, Option.some.injEq] at e; exact e.symm)
    simp only [Nat.zero_add, List.nil_append] at hown ⊢
    refine h g cap w' ?_ (by rcases hat with e | e; · simp only [Value.ownBlock, Option.some.injEq] at e; omega
                             · have := hW.size; omega) (hW.trans (Kept.mono k (fun i hi e => e)) (fun i hi e => by omega)) (fun g2 c2 zs ht hz => ?_) (fun q o hq ho => k.at ho hq)
    · refine ⟨hown.1, .inr ?_⟩
      rcases hown.2 with ⟨e, _⟩ | ⟨g', c', cur, e, _, r⟩
      · cases e
      · cases e
        exact ⟨g, cap, cur, rfl, Nat.le_refl _, r⟩
    · refine k.row ht (fun q e hq => ?_)
      rcases ht.2 with ⟨e0, _⟩ | ⟨g', c', cur, e1, _, hg, h1, h2, h3, h4⟩
      · cases e0
      · cases e1
        simp only [Value.ownBlock, Option.some.injEq] at e
        subst e; subst hq
        rw [hB] at hg
        cases hg
        simp at h3
        omega
set_option maxHeartbeats 8000000 in
theorem rown_any {w:World} {a1 a2:Addr} {ac bc:Nat} {x:Ru} (h1:IntsAt w (some a1) x.1) (h2:IntsAt w (some a2) x.2) (p1:0<x.1.length) (p2:0<x.2.length) (m1:x.1.length≤2000) (m2:x.2.length≤2000) :
  Calls Tryz.prog 96 #[.agg #[.slice (some a1) x.1.length ac,.slice (some a2) x.2.length bc]] w fun e w' => ∃ g c g' c', e=.returned (.agg #[.slice (some ⟨g,0,none⟩) x.1.length c,.slice (some ⟨g', 0,none⟩) x.2.length c'])∧TmAt w' g c x.1∧TmAt w' g' c' x.2∧w.heap.size≤g∧w.heap.size≤g' ∧ Same0 w w' := by
 obtain ⟨wb,hwb⟩:∃ wb,wb=(w.alloc (.cells #[.slice (some a1) x.1.length ac,.slice (some a2) x.2.length bc] 90)).alloc (.cells #[.slice none 0 0,.slice none 0 0] 90):=⟨_,rfl⟩
 have K0:Same0 w wb:=by rw [hwb];exact ((Kept.refl _ w).alloc _).alloc _
 have z0:wb.heap.size=w.heap.size+2:=by rw [hwb];simp
 have B0:wb.heap[w.heap.size]? = some (.cells #[.slice (some a1) x.1.length ac,.slice (some a2) x.2.length bc] 90 (0,0)):=by rw [hwb];exact heap_alloc2_old _ _ _
 have B1:wb.heap[w.heap.size+1]? = some (.cells #[.slice none 0 0,.slice none 0 0] 90 (0,0)):=by rw [hwb];exact heap_al_al _ _ _
 have HS:Hid (∀ ww,Same0 wb ww→(ww.cell? ⟨w.heap.size,0,none⟩=some (.slice (some a1) x.1.length ac)∧ww.cell? ⟨w.heap.size,1,none⟩=some (.slice (some a2) x.2.length bc))∧(ww.cell? ⟨w.heap.size+1,0,none⟩=some (.slice none 0 0)∧ww.cell? ⟨w.heap.size+1,1,none⟩=some (.slice none 0 0))∧ww.frozen? ⟨w.heap.size+1,0,none⟩=false∧ww.frozen? ⟨w.heap.size+1,1,none⟩=false):=fun ww hk=>⟨⟨cellAt (hk.at0 B0) 0,cellAt (hk.at0 B0) 1⟩,⟨cellAt (hk.at0 B1) 0,cellAt (hk.at0 B1) 1⟩,frozenAt (hk.at0 B1) 0,frozenAt (hk.at0 B1) 1⟩
 have HEnd:Hid (∀ ww (A B:Value),Same0 wb ww→Same0 w ((ww.setCell ⟨w.heap.size+1,0,none⟩ A).setCell ⟨w.heap.size+1,1,none⟩ B)):=fun ww A B hk=>((K0.trans' hk).setCell (fun h=>absurd h (by simp)) _).setCell (fun h=>absurd h (by simp)) _
 have HT:Hid (∀ ww g c xs (A B:Value),TmAt ww g c xs→wb.heap.size≤g→TmAt ((ww.setCell ⟨w.heap.size+1,0,none⟩ A).setCell ⟨w.heap.size+1,1,none⟩ B) g c xs):=fun ww g c xs A B ht hg=>by
  have k:Kept (fun k=>k=w.heap.size+1) ww ((ww.setCell ⟨w.heap.size+1,0,none⟩ A).setCell ⟨w.heap.size+1,1,none⟩ B):=Kept.setCell (p:=⟨w.heap.size+1,1,none⟩) (Kept.setCell (p:=⟨w.heap.size+1,0,none⟩) (Kept.refl (fun k=>k=w.heap.size+1) ww) (fun _=>rfl) A) (fun _=>rfl) B
  exact k.row ht (fun i e=>by simp [Value.ownBlock] at e;omega)
 have HR:Hid (∀ ww (A B:Value),Same0 wb ww→((ww.setCell ⟨w.heap.size+1,0,none⟩ A).setCell ⟨w.heap.size+1,1,none⟩ B).cell? ⟨w.heap.size+1,0,none⟩=some A∧((ww.setCell ⟨w.heap.size+1,0,none⟩ A).setCell ⟨w.heap.size+1,1,none⟩ B).cell? ⟨w.heap.size+1,1,none⟩=some B):=fun ww A B hk=>by
  have b:=setAt (setAt (hk.at0 B1) 0 A) 1 B
  exact ⟨cellAt b 0,cellAt b 1⟩
 have I1:=h1.same K0
 have I2:=h2.same K0
 obtain ⟨⟨c00,c01⟩,⟨c10,c11⟩,f10,f11⟩:=HS.out wb (Kept.refl _ _)
 have HW:Hid (wb=(w.alloc (.cells #[.slice (some a1) x.1.length ac,.slice (some a2) x.2.length bc] 90)).alloc (.cells #[.slice none 0 0,.slice none 0 0] 90)):=hwb
 clear B0 B1 h1 h2 hwb
 go_enter Tryz.func96,Tryz.ntmps96
 go_wp2
 rw [← HW.out]
 have E0:(wb.alloc (.cells #[] 3)).heap[w.heap.size+2]? = some (.cells #[] 3 (0,0)):=by rw [← z0];exact heap_alloc_new _ _
 have E1:((wb.alloc (.cells #[] 3)).alloc (.cells #[] 3)).heap[w.heap.size+2]? = some (.cells #[] 3 (0,0)):=by rw [← z0];exact heap_alloc2_old _ _ _
 have E2:((wb.alloc (.cells #[] 3)).alloc (.cells #[] 3)).heap[w.heap.size+3]? = some (.cells #[] 3 (0,0)):=by have:=heap_alloc_new (wb.alloc (.cells #[] 3)) (.cells #[] 3 (0,0));rw [World.size_alloc,z0] at this;exact this
 have HE:Hid ((wb.alloc (.cells #[] 3)).heap[w.heap.size+2]? = some (.cells #[] 3 (0,0))∧((wb.alloc (.cells #[] 3)).alloc (.cells #[] 3)).heap[w.heap.size+2]? = some (.cells #[] 3 (0,0))∧((wb.alloc (.cells #[] 3)).alloc (.cells #[] 3)).heap[w.heap.size+3]? = some (.cells #[] 3 (0,0))):=⟨E0,E1,E2⟩
 have hz0:Hid (wb.heap.size=w.heap.size+2):=z0
 clear E0 E1 E2
 rename_i QQ KK hKK
 have FIN:Hid (∀ (t0 t1 t3 t4 t5 t6 t7 t8 t9 t10 t11:Value) (w2:World) (g c g' c' : Nat),Same0 wb w2→TmAt w2 g c x.1→TmAt w2 g' c' x.2→wb.heap.size≤g→wb.heap.size≤g' → KK { tmps:=#[t0,t1,.pointer (some ⟨w.heap.size+1,0,none⟩),t3,t4,t5,t6,t7,t8,t9,t10,t11],defers:=[] } ((w2.setCell ⟨w.heap.size+1,0,none⟩ (.slice (some ⟨g,0,none⟩) x.1.length c)).setCell ⟨w.heap.size+1,1,none⟩ (.slice (some ⟨g', 0,none⟩) x.2.length c'))):=by
  intro t0 t1 t3 t4 t5 t6 t7 t8 t9 t10 t11 w2 g c g' c' S3 T5 T3 G1 G3
  apply hKK
  clear HS I1 I2
  go_wp2
  exact bodyPost_ret (v:=.agg #[.slice (some ⟨g,0,none⟩) x.1.length c,.slice (some ⟨g', 0,none⟩) x.2.length c']) (by obtain ⟨r0,r1⟩:=HR.out w2 (.slice (some ⟨g,0,none⟩) x.1.length c) (.slice (some ⟨g', 0,none⟩) x.2.length c') S3;simp [results,Tryz.results96,go_sem,r0,r1]) rfl ⟨g,c,g', c', rfl,HT.out _ _ _ _ _ _ T5 G1,HT.out _ _ _ _ _ _ T3 G3,by omega,by omega,HEnd.out _ _ _ S3⟩
 clear HR HT HEnd
 go_region_law (first
  | (have T2:=T1;have hz:=hz0.out;have hzz:=S1.size;refine step_ownT (wb:=wb) (by rfl) _ _ (by rfl) _ (by rfl) x.2 a2 bc (by rfl) (by first | exact S1 | exact S1.alloc _) (by first | exact heap_alloc_new _ _ | exact X2 | exact X3) (by omega) I2 p2 m2 ?_;intro g' c' w2 T3 G3 S3 T4 _;obtain ⟨⟨e00,e01⟩,⟨e10,e11⟩,y10,y11⟩:=HS.out w2 S3;have T5:=T4 _ _ _ (by first | exact T2 | exact T2.same ((Kept.refl _ _).alloc _)) p1)
  | (have hz:=hz0.out;refine step_ownT (wb:=wb) (by rfl) _ _ (by rfl) _ (by rfl) x.1 a1 ac (by rfl) (by first | exact ((Kept.refl _ wb).alloc _).drew | exact (((Kept.refl _ wb).alloc _).alloc _).drew | exact (Kept.refl _ wb).drew.alloc _ | exact ((Kept.refl _ wb).drew.alloc _).alloc _) (by first | exact HE.out.1 | exact HE.out.2.1 | exact HE.out.2.2) (by omega) I1 p1 m1 ?_;intro g c w1 T1 G1 S1 T0 KQ;obtain ⟨⟨e00,e01⟩,⟨e10,e11⟩,y10,y11⟩:=HS.out w1 S1;obtain ⟨⟨_,e01'⟩,_⟩:=HS.out _ (S1.alloc (.cells #[] 3)); (try have X2:=KQ (w.heap.size+2) _ (by omega) HE.out.2.1); (try have X3:=KQ (w.heap.size+3) _ (by omega) HE.out.2.2);clear hz KQ T0))
 all_goals exact FIN.out _ _ _ _ _ _ _ _ _ _ _ w2 g c g' c' S3 T5 T3 G1 G3
end Go.Proofs.YtmjgnfkbnofjoaaGreatDoor
