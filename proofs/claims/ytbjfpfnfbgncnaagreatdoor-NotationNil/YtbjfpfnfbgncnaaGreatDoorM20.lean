import Derived.Test.YtbjfpfnfbgncnaaGreatDoorM19
import Derived.Test.YtbjfpfnfbgncnaaGreatDoorM13
/- The walk of one declaration. -/
namespace Go.Proofs.YtbjfpfnfbgncnaaGreatDoor
open Go.RowKit
set_option linter.unusedVariables false
set_option maxRecDepth 100000
def aggD (x : Nat × Sym) : Value := .agg #[.int .i64 (x.1 : Int), .string x.2.name, .int .i64 x.2.ar, .bool x.2.df]
def DeclCame (rb tb : Nat) (w : World) (R : Except Nat ((Nat × Sym) × List Tok)) (e : Ending) (w' : World) : Prop := match R with
  | .ok (x, r) => e = .returned (aggD x) ∧ RdAt w' rb tb r ∧ Kept (fun i => i = rb) w w' ∧ EndsT r
  | .error p => GaveUp w.heap.size w' e 41 p ∧ Kept (fun i => i = rb) w w'
set_option maxHeartbeats 4000000 in
theorem declaration_any {w : World} {rb tb : Nat} {ts : List Tok} (d : Bool) (hE : EndsT ts) (hR0 : RdAt w rb tb ts) : Calls Tryz.prog 72 #[.pointer (some ⟨rb, 0, none⟩), .bool d] w (DeclCame rb tb w (declF d ts)) := by
  have k0 : Same0 w (w.alloc (.cells #[.int .i64 0, .string ⟨#[]⟩, .int .i64 0, .bool false] 138)) := Kept.alloc (Kept.refl _ w) _
  cases ts with
  | nil => exact absurd rfl hE.ne
  | cons n q =>
    have hR := hR0.same k0
    by_cases h1 : n.kind = 1
    · have hE2 := hE.next (by omega)
      cases q with
      | nil => exact absurd rfl hE2.ne
      | cons s q =>
        have c1 := take1_ok hR 1 (by omega)
        unfold aggT at c1
        simp only [World.size_alloc] at c1
        by_cases h9 : s.kind = 9
        · have hE3 := hE2.next (by omega)
          cases q with
          | nil => exact absurd rfl hE3.ne
          | cons k r =>
            by_cases h3 : k.kind = 3
            · have e1 : declF d (n :: s :: k :: r) = .ok ((n.at', ⟨txt n.text, (valL k.text : Int), d⟩), r) := by simp [declF, h1, h9, h3, txt]
              rw [e1]
              have HE : Hid (EndsT r) := hE3.next (by omega)
              have hok := hE3.ok
              have HRl := hR0.lt
              clear e1 hE hE2 hE3 hR hR0 h1
              go_enter Tryz.func72, Tryz.ntmps72
              go_upto_region 2 with (first | (go_at_call 52; refine c1.mono ?_; rintro e w1 ⟨rfl, k1, k2⟩))
              have hlt := HRl
              have kA : Same0 w1 (w1.alloc (.cells #[.int .i64 (n.kind : Int), .int .i64 (n.at' : Int), .string (txt n.text)] 113)) := Kept.alloc (Kept.refl _ w1) _
              have R1 := k1.same kA
              have b1 := heap_alloc_new w1 (.cells #[.int .i64 (n.kind : Int), .int .i64 (n.at' : Int), .string (txt n.text)] 113)
              have v1 := kA.at0 (k2.at (heap_alloc_new w (.cells #[.int .i64 0, .string ⟨#[]⟩, .int .i64 0, .bool false] 138)) (by omega))
              have K1 : Kept (fun i => i = rb) w (w1.alloc (.cells #[.int .i64 (n.kind : Int), .int .i64 (n.at' : Int), .string (txt n.text)] 113)) := Kept.alloc (k2.behind) _
              have hB1 : w.heap.size < w1.heap.size := by have := k2.size; simp only [World.size_alloc] at this; omega
              obtain ⟨W1, hW1⟩ : ∃ W, w1.alloc (.cells #[.int .i64 (n.kind : Int), .int .i64 (n.at' : Int), .string (txt n.text)] 113) = W := ⟨_, rfl⟩
              obtain ⟨B1, hBB⟩ : ∃ B, w1.heap.size = B := ⟨_, rfl⟩
              rw [hW1] at R1 b1 v1 K1 ⊢
              rw [hBB] at b1 hB1 ⊢
              have hk1 := k1.lt
              rw [hBB] at hk1
              clear hW1 hBB kA k1 k2 c1 k0
              have c2 := take1_ok R1 9 (by omega)
              clear R1
              go_upto_region 3 with (first | (go_at_call 52; refine c2.mono ?_; rintro e w2 ⟨rfl, k1, k2⟩))
              have cN : Calls Tryz.prog 75 #[.pointer (some ⟨rb, 0, none⟩)] w2.drew fun e w6 => e = .returned (.int .i64 (valL k.text : Int)) ∧ RdAt w6 rb tb r ∧ w6.heap[B1]? = some (.cells #[.int .i64 (n.kind : Int), .int .i64 (n.at' : Int), .string (txt n.text)] 113 (0, 0)) ∧ w6.heap[w.heap.size]? = some (.cells #[.int .i64 0, .string ⟨#[]⟩, .int .i64 0, .bool false] 138 (0, 0)) ∧ Kept (fun i => i = rb) w w6 := by
                have kd : Same0 w2 w2.drew := Kept.drew (Kept.refl _ w2)
                refine (number_ok (k1.same kd) hok h3).mono ?_
                rintro e w6 ⟨rfl, a1, a2⟩
                have K6 : Kept (fun i => i = rb) W1 w6 := (k2.trans (S' := fun _ => False) kd (fun _ _ f => f.elim)).trans a2 (fun _ _ e => e)
                exact ⟨rfl, a1, K6.at b1 (by omega), K6.at v1 (by omega), K1.trans K6 (fun _ _ e => e)⟩
              have b2 := k2.at b1 (by omega)
              have q1 := cellAt b2 1
              have q2 := cellAt b2 2
              simp only [List.getElem?_toArray, List.getElem?_cons_zero, List.getElem?_cons_succ] at q1 q2
              have hB2 := lt_of_at b2
              clear c2 k1 k2 b1 v1 K1 b2
              refine wp_region_held (S := fun w' => w'.cell? ⟨B1, 1, none⟩ = some (.int .i64 (n.at' : Int)) ∧ w'.cell? ⟨B1, 2, none⟩ = some (.string (txt n.text))) (by kernel_rfl) ?_
              refine wpAnyH_take (i := 0) (v := .pointer (some ⟨B1, 1, none⟩)) rfl (by kernel_rfl) (by kernel_rfl) (by kernel_rfl) (fun _ _ _ h => h) (.inl ⟨rfl, fun w' hS => by simp [go_sem]⟩) ⟨q1, q2⟩ ?_
              refine wpAnyH_take (i := 1) (v := .int .i64 (n.at' : Int)) rfl (by kernel_rfl) (by kernel_rfl) (by kernel_rfl) (fun _ _ _ h => h) (.inl ⟨rfl, fun w' hS => by simp [go_sem, hS.1]⟩) ⟨q1, q2⟩ ?_
              refine wpAnyH_take (i := 2) (v := .pointer (some ⟨B1, 2, none⟩)) rfl (by kernel_rfl) (by kernel_rfl) (by kernel_rfl) (fun _ _ _ h => h) (.inl ⟨rfl, fun w' hS => by simp [go_sem]⟩) ⟨q1, q2⟩ ?_
              refine wpAnyH_take (i := 3) (v := .string (txt n.text)) rfl (by kernel_rfl) (by kernel_rfl) (by kernel_rfl) (fun _ _ _ h => h) (.inl ⟨rfl, fun w' hS => by simp [go_sem, hS.2]⟩) ⟨q1, q2⟩ ?_
              refine wpAnyH_take (i := 4) (v := .pointer (some ⟨rb, 0, none⟩)) rfl (by kernel_rfl) (by kernel_rfl) (by kernel_rfl) (fun _ _ _ h => h) (.inl ⟨rfl, fun w' hS => by simp [go_sem]⟩) ⟨q1, q2⟩ ?_
              refine wpAnyH_take (i := 6) (v := .bool d) rfl (by kernel_rfl) (by kernel_rfl) (by kernel_rfl) (fun _ _ _ h => h) (.inl ⟨rfl, fun w' hS => by simp [go_sem]⟩) ⟨q1, q2⟩ ?_
              refine wpAnyH_all (rs := [5]) (by kernel_rfl) (by simp) (fun i hi => ?_)
              obtain rfl := List.mem_singleton.1 hi
              simp [wpOp, go_sem]
              refine .inl (cN.mono ?_)
              rintro e w6 ⟨rfl, y1, y2, y3, y4⟩
              have s1 := cellAt y2 1
              have s2 := cellAt y2 2
              have z0 := cellAt y3 0
              have z1 := cellAt y3 1
              have z2 := cellAt y3 2
              have z3 := cellAt y3 3
              have f0 := frozenAt y3 0
              have f1 := frozenAt y3 1
              have f2 := frozenAt y3 2
              have f3 := frozenAt y3 3
              simp only [List.getElem?_toArray, List.getElem?_cons_zero, List.getElem?_cons_succ] at s1 s2 z0 z1 z2 z3
              refine ⟨⟨s1, s2⟩, ?_⟩
              refine wpAnyH_all (rs := [7]) (by kernel_rfl) (by simp) (fun i hi => ?_)
              obtain rfl := List.mem_singleton.1 hi
              simp [wpOp, go_sem]
              refine .inl ⟨⟨s1, s2⟩, ?_⟩
              refine wpAnyH_all (rs := [8]) (by kernel_rfl) (by simp) (fun i hi => ?_)
              obtain rfl := List.mem_singleton.1 hi
              simp [wpOp, go_sem]
              refine .inl ⟨⟨s1, s2⟩, ?_⟩
              refine wpAnyH_all (rs := [9]) (by kernel_rfl) (by simp) (fun i hi => ?_)
              obtain rfl := List.mem_singleton.1 hi
              simp [wpOp, go_sem, z0, z1, z2, z3, f0, f1, f2, f3]
              refine .inl ⟨⟨s1, s2⟩, wpAnyH_done (by kernel_rfl) ?_ _⟩
              have hs : ∀ (a b c d : Value), Kept (fun i => i = w.heap.size) w6 ((((w6.setCell ⟨w.heap.size, 0, none⟩ a).setCell ⟨w.heap.size, 1, none⟩ b).setCell ⟨w.heap.size, 2, none⟩ c).setCell ⟨w.heap.size, 3, none⟩ d) := fun a b c d => Kept.setCell (p := ⟨w.heap.size, 3, none⟩) (Kept.setCell (p := ⟨w.heap.size, 2, none⟩) (Kept.setCell (p := ⟨w.heap.size, 1, none⟩) (Kept.setCell (p := ⟨w.heap.size, 0, none⟩) (Kept.refl (fun i => i = w.heap.size) w6) (fun _ => rfl) a) (fun _ => rfl) b) (fun _ => rfl) c) (fun _ => rfl) d
              have HS : Hid (∀ (a b c d : Value), Kept (fun i => i = w.heap.size) w6 ((((w6.setCell ⟨w.heap.size, 0, none⟩ a).setCell ⟨w.heap.size, 1, none⟩ b).setCell ⟨w.heap.size, 2, none⟩ c).setCell ⟨w.heap.size, 3, none⟩ d)) := hs
              clear hs
              simp only [Exit.then]
              go_wp2_with fail
              exact bodyPost_ret (v := aggD (n.at', ⟨txt n.text, (valL k.text : Int), d⟩)) (by simp [results, Tryz.results72, go_sem, aggD, z0, z1, z2, z3]) rfl ⟨rfl, y1.kept (HS.out _ _ _ _) (by omega) (by omega), y4.trans (HS.out _ _ _ _) (fun i hi e => by omega), HE.out⟩
            · have e1 : declF d (n :: s :: k :: r) = .error k.at' := by simp [declF, h1, h9, h3]
              rw [e1]
              have HRl := hR0.lt
              clear e1 hE hE2 hE3 hR hR0 h1
              go_enter Tryz.func72, Tryz.ntmps72
              go_upto_region 2 with (first | (go_at_call 52; refine c1.mono ?_; rintro e w1 ⟨rfl, k1, k2⟩))
              have hlt := HRl
              have kA : Same0 w1 (w1.alloc (.cells #[.int .i64 (n.kind : Int), .int .i64 (n.at' : Int), .string (txt n.text)] 113)) := Kept.alloc (Kept.refl _ w1) _
              have R1 := k1.same kA
              have b1 := heap_alloc_new w1 (.cells #[.int .i64 (n.kind : Int), .int .i64 (n.at' : Int), .string (txt n.text)] 113)
              have v1 := kA.at0 (k2.at (heap_alloc_new w (.cells #[.int .i64 0, .string ⟨#[]⟩, .int .i64 0, .bool false] 138)) (by omega))
              have K1 : Kept (fun i => i = rb) w (w1.alloc (.cells #[.int .i64 (n.kind : Int), .int .i64 (n.at' : Int), .string (txt n.text)] 113)) := Kept.alloc (k2.behind) _
              have hB1 : w.heap.size < w1.heap.size := by have := k2.size; simp only [World.size_alloc] at this; omega
              obtain ⟨W1, hW1⟩ : ∃ W, w1.alloc (.cells #[.int .i64 (n.kind : Int), .int .i64 (n.at' : Int), .string (txt n.text)] 113) = W := ⟨_, rfl⟩
              obtain ⟨B1, hBB⟩ : ∃ B, w1.heap.size = B := ⟨_, rfl⟩
              rw [hW1] at R1 b1 v1 K1 ⊢
              rw [hBB] at b1 hB1 ⊢
              have hk1 := k1.lt
              rw [hBB] at hk1
              clear hW1 hBB kA k1 k2 c1 k0
              have c2 := take1_ok R1 9 (by omega)
              clear R1
              go_upto_region 3 with (first | (go_at_call 52; refine c2.mono ?_; rintro e w2 ⟨rfl, k1, k2⟩))
              have cN : Calls Tryz.prog 75 #[.pointer (some ⟨rb, 0, none⟩)] w2.drew fun e w6 => GaveUp w.heap.size w6 e 41 k.at' ∧ Kept (fun i => i = rb) w w6 := by
                have kd : Same0 w2 w2.drew := Kept.drew (Kept.refl _ w2)
                refine (number_bad (k1.same kd) h3).mono ?_
                rintro e w6 ⟨a1, a2⟩
                have hsz := k2.size
                have hsz2 := K1.size
                exact ⟨a1.mono (by show w.heap.size ≤ w2.heap.size; omega), (K1.trans k2 (fun _ _ e => e)).trans (kd.trans' a2) (fun _ _ f => f.elim)⟩
              have b2 := k2.at b1 (by omega)
              have q1 := cellAt b2 1
              have q2 := cellAt b2 2
              simp only [List.getElem?_toArray, List.getElem?_cons_zero, List.getElem?_cons_succ] at q1 q2
              have hB2 := lt_of_at b2
              clear c2 k1 k2 b1 v1 K1 b2
              refine wp_region_held (S := fun w' => w'.cell? ⟨B1, 1, none⟩ = some (.int .i64 (n.at' : Int)) ∧ w'.cell? ⟨B1, 2, none⟩ = some (.string (txt n.text))) (by kernel_rfl) ?_
              refine wpAnyH_take (i := 0) (v := .pointer (some ⟨B1, 1, none⟩)) rfl (by kernel_rfl) (by kernel_rfl) (by kernel_rfl) (fun _ _ _ h => h) (.inl ⟨rfl, fun w' hS => by simp [go_sem]⟩) ⟨q1, q2⟩ ?_
              refine wpAnyH_take (i := 1) (v := .int .i64 (n.at' : Int)) rfl (by kernel_rfl) (by kernel_rfl) (by kernel_rfl) (fun _ _ _ h => h) (.inl ⟨rfl, fun w' hS => by simp [go_sem, hS.1]⟩) ⟨q1, q2⟩ ?_
              refine wpAnyH_take (i := 2) (v := .pointer (some ⟨B1, 2, none⟩)) rfl (by kernel_rfl) (by kernel_rfl) (by kernel_rfl) (fun _ _ _ h => h) (.inl ⟨rfl, fun w' hS => by simp [go_sem]⟩) ⟨q1, q2⟩ ?_
              refine wpAnyH_take (i := 3) (v := .string (txt n.text)) rfl (by kernel_rfl) (by kernel_rfl) (by kernel_rfl) (fun _ _ _ h => h) (.inl ⟨rfl, fun w' hS => by simp [go_sem, hS.2]⟩) ⟨q1, q2⟩ ?_
              refine wpAnyH_take (i := 4) (v := .pointer (some ⟨rb, 0, none⟩)) rfl (by kernel_rfl) (by kernel_rfl) (by kernel_rfl) (fun _ _ _ h => h) (.inl ⟨rfl, fun w' hS => by simp [go_sem]⟩) ⟨q1, q2⟩ ?_
              refine wpAnyH_take (i := 6) (v := .bool d) rfl (by kernel_rfl) (by kernel_rfl) (by kernel_rfl) (fun _ _ _ h => h) (.inl ⟨rfl, fun w' hS => by simp [go_sem]⟩) ⟨q1, q2⟩ ?_
              refine wpAnyH_all (rs := [5]) (by kernel_rfl) (by simp) (fun i hi => ?_)
              obtain rfl := List.mem_singleton.1 hi
              simp [wpOp, go_sem]
              refine .inl (cN.mono ?_)
              rintro e w6 ⟨⟨b, rfl, y1, y2⟩, y3⟩
              exact ⟨rfl, ⟨b, rfl, y1, y2⟩, y3⟩
        · have e1 : declF d (n :: s :: q) = .error s.at' := by cases q <;> simp [declF, h1, h9]
          rw [e1]
          have HRl := hR0.lt
          clear e1 hE hE2 hR hR0 h1
          go_enter Tryz.func72, Tryz.ntmps72
          go_upto_region 2 with (first | (go_at_call 52; refine c1.mono ?_; rintro e w1 ⟨rfl, k1, k2⟩))
          have c2 := take1_bad (k1.same (Kept.alloc (Kept.refl _ w1) (.cells #[.int .i64 (n.kind : Int), .int .i64 (n.at' : Int), .string (txt n.text)] 113))) 9 (by omega)
          simp only [World.size_alloc] at c2
          have K1 : Kept (fun i => i = rb) w (w1.alloc (.cells #[.int .i64 (n.kind : Int), .int .i64 (n.at' : Int), .string (txt n.text)] 113)) := Kept.alloc (k2.behind) _
          have hsz := k2.size
          simp only [World.size_alloc] at hsz
          clear c1 k0 k1 k2
          go_wp2_with (first | (go_at_call 52; refine c2.mono ?_; rintro e w2 ⟨⟨b, rfl, y1, y2⟩, y3⟩))
          exact ⟨rfl, ⟨b, rfl, by omega, y2⟩, K1.trans y3 (fun _ _ f => f.elim)⟩
    · have e1 : declF d (n :: q) = .error n.at' := by
        cases q with
        | nil => simp [declF, h1]
        | cons s q => cases q <;> simp [declF, h1]
      rw [e1]
      have c1 := take1_bad hR 1 (by omega)
      simp only [World.size_alloc] at c1
      clear e1 hE hR hR0 h1
      go_enter Tryz.func72, Tryz.ntmps72
      go_wp2_with (first | (go_at_call 52; refine c1.mono ?_; rintro e w1 ⟨⟨b, rfl, k1, k2⟩, k3⟩))
      exact ⟨rfl, ⟨b, rfl, by omega, k2⟩, Kept.mono (k0.trans' k3) (fun _ _ f => f.elim)⟩
end Go.Proofs.YtbjfpfnfbgncnaaGreatDoor
/- The walk of the reader's list: nothing, or a row. -/
namespace Go.Proofs.YtbjfpfnfbgncnaaGreatDoor
open Go.RowKit
set_option linter.unusedVariables false
set_option maxRecDepth 100000
set_option maxHeartbeats 1000000 in
theorem list_end {w : World} {rb tb : Nat} {t : Tok} {r : List Tok} (h : RdAt w rb tb (t :: r)) (hk : t.kind = 13) (sign : Int) (fv : Value) :
    Calls Tryz.prog 59 #[.pointer (some ⟨rb, 0, none⟩), .int .i64 sign, fv] w fun e w' => e = .returned (.tuple #[]) ∧ w' = w := by
  have c1 := next_any h
  rw [hk] at c1
  clear h hk
  go_enter Tryz.func59, Tryz.ntmps59
  go_wp2_with (first | (go_at_call 87; refine c1.mono ?_; rintro e w' ⟨rfl, rfl⟩))
  go_end0
  exact ⟨rfl, rfl⟩
set_option maxHeartbeats 1000000 in
theorem list_row {α : Type} {sz : α → Nat} {B base : Nat} {w : World} {rb tb : Nat} {t : Tok} {r : List Tok} (h : RdAt w rb tb (t :: r)) (hk : ¬ t.kind = 13) (sign : Int) (fv : Value) {A : α → World → Prop} {Fr : World → Prop} {R : Except Nat (α × List Tok)}
    (c : Calls Tryz.prog 54 #[.pointer (some ⟨rb, 0, none⟩), .int .i64 sign, fv] w (Comes sz B base rb tb (t :: r) A Fr R)) :
    Calls Tryz.prog 59 #[.pointer (some ⟨rb, 0, none⟩), .int .i64 sign, fv] w (Comes sz B base rb tb (t :: r) A Fr R) := by
  have c1 := next_any h
  have hne : ((t.kind : Int) == 13) = false := by simp; omega
  clear h hk
  cases R with
  | error p =>
    go_enter Tryz.func59, Tryz.ntmps59
    go_wp2_with (first | (go_at_call 87; refine c1.mono ?_; rintro e w' ⟨rfl, rfl⟩) | (go_at_call 54; refine c.mono ?_; rintro e w' ⟨⟨b, rfl, h2, h3⟩, h4⟩))
    exact ⟨rfl, ⟨b, rfl, h2, h3⟩, h4⟩
  | ok v =>
    obtain ⟨a, q⟩ := v
    go_enter Tryz.func59, Tryz.ntmps59
    go_wp2_with (first | (go_at_call 87; refine c1.mono ?_; rintro e w' ⟨rfl, rfl⟩) | (go_at_call 54; refine c.mono ?_; rintro e w' ⟨rfl, h2⟩))
    go_end0
    exact ⟨rfl, h2⟩
end Go.Proofs.YtbjfpfnfbgncnaaGreatDoor
/- The walks of what gathers declarations. -/
namespace Go.Proofs.YtbjfpfnfbgncnaaGreatDoor
open Go.RowKit
set_option linter.unusedVariables false
set_option maxRecDepth 100000
abbrev Dc := Nat × Sym
def oneDecl (d : Bool) (ts : List Tok) (a : List Dc) : Except Nat (List Dc × List Tok) := match declF d ts with
  | .error p => .error p
  | .ok (x, r) => .ok (a ++ [x], r)
theorem declF_lt {d : Bool} {ts r : List Tok} {x : Dc} (h : declF d ts = .ok (x, r)) : r.length < ts.length := by
  match ts, h with
  | [], h => simp [declF] at h
  | [n], h => simp only [declF] at h; split at h <;> cases h
  | [n, s], h => simp only [declF] at h; repeat' split at h
                 all_goals cases h
  | n :: s :: k :: q, h =>
    simp only [declF] at h
    repeat' split at h
    all_goals first | (cases h; simp; omega) | cases h
def dcV (x : Dc) : List Value := [.int .i64 (x.1 : Int), .string x.2.name, .int .i64 x.2.ar, .bool x.2.df]
def dcCells (l : List Dc) : List Value := l.flatMap dcV
theorem dcCells_snoc (l : List Dc) (x : Dc) : dcCells (l ++ [x]) = dcCells l ++ dcV x := by simp [dcCells]
theorem info_decl : (Tryz.prog.info? 138).map (fun i => (i.zero, i.size, i.bytes)) = some (some (.agg #[.int .i64 0, .string ByteArray.empty, .int .i64 0, .bool false]), 4, 40) := by kernel_rfl
/-- What the inner function value keeps: the row so far, and whether the symbols are defined ones. -/
def DeclA (d : Bool) (w0 : World) (rb tb rv vb dv : Nat) (a : List Dc) (wc : World) : Prop := ∃ lv, Col 96 138 4 w0 rb tb rv vb a.length (dcCells a) wc lv ∧ wc.heap[dv]? = some (.cells #[.bool d] 4 (0, 0)) ∧ lv.ownBlock ≠ some dv ∧ dv ≠ rb ∧ dv ≠ vb
theorem DeclA.rd {d : Bool} {w0 : World} {rb tb rv vb dv : Nat} {a : List Dc} {wc wd : World} (h : DeclA d w0 rb tb rv vb dv a wc) (k : Kept (fun i => i = rb) wc wd) : DeclA d w0 rb tb rv vb dv a wd := by
  obtain ⟨lv, C, h1, h2, h3, h4⟩ := h
  exact ⟨lv, C.rd k, k.at h1 h3, h2, h3, h4⟩
set_option maxHeartbeats 4000000 in
theorem decl1_reads {d : Bool} {w0 : World} {rb tb rv vb dv F B : Nat} (hB : B ≤ 50000) : Reads List.length F B w0.heap.size rb tb 71 #[.pointer (some ⟨vb, 0, none⟩), .pointer (some ⟨rv, 0, none⟩), .pointer (some ⟨dv, 0, none⟩)] (oneDecl d) (DeclA d w0 rb tb rv vb dv) (fun w' => Kept (fun i => i = rb ∨ i = vb) w0 w') := by
  rintro ts a wc hE hF hz hR ⟨lv, C, hdv, hdo, hdr, hdb⟩
  obtain ⟨s0, s1, f1⟩ := C.cells
  have s2 := cellAt hdv 0
  simp only [List.getElem?_toArray, List.getElem?_cons_zero] at s2
  obtain ⟨ao, cap, rfl⟩ : ∃ ao cap, lv = .slice ao a.length cap := row_shape C.row
  have hw0 := C.kept.size
  have hz1 : a.length ≤ 100000 := by omega
  have kd : Same0 wc wc.drew := Kept.drew (Kept.refl _ wc)
  have c1 := declaration_any d hE (hR.same kd)
  cases hD : declF d ts with
  | error p =>
    have e1 : oneDecl d ts a = .error p := by simp [oneDecl, hD]
    rw [e1]
    rw [hD] at c1
    have cN : Calls Tryz.prog 72 #[.pointer (some ⟨rb, 0, none⟩), .bool d] wc.drew fun e w6 => GaveUp w0.heap.size w6 e 41 p ∧ Kept (fun i => i = rb ∨ i = vb) w0 w6 := by
      refine c1.mono ?_
      rintro e w6 ⟨a1, a2⟩
      exact ⟨a1.mono hw0, (C.kept.trans kd (fun _ _ f => f.elim)).trans a2 (fun _ _ e => .inl e)⟩
    clear hD e1 c1 C hE hR hz
    go_enter Tryz.func71, Tryz.ntmps71
    refine wp_region_held (S := fun w' => w'.cell? ⟨rv, 0, none⟩ = some (.pointer (some ⟨rb, 0, none⟩)) ∧ w'.cell? ⟨vb, 0, none⟩ = some (.slice ao a.length cap) ∧ w'.cell? ⟨dv, 0, none⟩ = some (.bool d)) (by kernel_rfl) ?_
    refine wpAnyH_take (i := 0) (v := .slice ao a.length cap) rfl (by kernel_rfl) (by kernel_rfl) (by kernel_rfl) (fun _ _ _ h => h) (.inl ⟨rfl, fun w' hS => by simp [go_sem, hS.2.1]⟩) ⟨s0, s1, s2⟩ ?_
    refine wpAnyH_take (i := 1) (v := .pointer (some ⟨rb, 0, none⟩)) rfl (by kernel_rfl) (by kernel_rfl) (by kernel_rfl) (fun _ _ _ h => h) (.inl ⟨rfl, fun w' hS => by simp [go_sem, hS.1]⟩) ⟨s0, s1, s2⟩ ?_
    refine wpAnyH_take (i := 2) (v := .bool d) rfl (by kernel_rfl) (by kernel_rfl) (by kernel_rfl) (fun _ _ _ h => h) (.inl ⟨rfl, fun w' hS => by simp [go_sem, hS.2.2]⟩) ⟨s0, s1, s2⟩ ?_
    refine wpAnyH_all (rs := [3]) (by kernel_rfl) (by simp) (fun i hi => ?_)
    obtain rfl := List.mem_singleton.1 hi
    simp [wpOp, go_sem]
    refine .inl (cN.mono ?_)
    rintro e w6 ⟨⟨b, rfl, g0, g1⟩, k6⟩
    exact ⟨rfl, ⟨b, rfl, g0, g1⟩, k6⟩
  | ok v =>
    obtain ⟨x, r⟩ := v
    have e1 : oneDecl d ts a = .ok (a ++ [x], r) := by simp [oneDecl, hD]
    rw [e1]
    rw [hD] at c1
    have hlt := declF_lt hD
    have cN : Calls Tryz.prog 72 #[.pointer (some ⟨rb, 0, none⟩), .bool d] wc.drew fun e w6 => e = .returned (aggD x) ∧ RdAt w6 rb tb r ∧ Col 96 138 4 w0 rb tb rv vb a.length (dcCells a) w6 (.slice ao a.length cap) ∧ w6.heap[dv]? = some (.cells #[.bool d] 4 (0, 0)) ∧ EndsT r := by
      refine c1.mono ?_
      rintro e w6 ⟨rfl, a1, a2, a3⟩
      exact ⟨rfl, a1, (C.same kd).rd a2, a2.at (kd.at0 hdv) hdr, a3⟩
    have HZ : Hid (a.length + ts.length ≤ B) := hz
    obtain ⟨xa, xs⟩ := x
    unfold aggD at cN
    clear hD e1 c1 C hE hR hz kd
    go_enter Tryz.func71, Tryz.ntmps71
    go_region_law (first | (refine step_elem (by rfl) _ _ 96 138 _ 4 40 Tryz.underlying96 info_decl (by rfl) (by omega) (by omega) (by rfl) w0.heap.size a.length (dcCells a) (.slice ao a.length cap) (by rfl) (World.ownsRow.alloc g1.row _) w6.heap.size #[.int .i64 (xa : Int), .string xs.name, .int .i64 xs.ar, .bool xs.df] (heap_alloc_new w6 _) rfl (by rfl) (by simp [Value.oneCell']) (by omega) (by have := g1.kept.size; simp only [World.size_alloc]; omega) ?_; intro g gcap w7 hr7 hk7 hat7; obtain ⟨C8, R8⟩ := g1.more g0 hr7 hk7 hat7; have f1'' := (frozenAt (hk7.behind.at g1.l0 (fun e => by have := (own_ge g1.row e).1; have := g1.lt; omega)) 0); have s1'' := (cellAt (hk7.behind.at g1.l0 (fun e => by have := (own_ge g1.row e).1; have := g1.lt; omega)) 0); simp only [List.getElem?_toArray, List.getElem?_cons_zero] at s1'') | (refine step_call rfl cN (by simp [go_sem]) (v := .agg #[.int .i64 (xa : Int), .string xs.name, .int .i64 xs.ar, .bool xs.df]) ?_; rintro e w6 ⟨rfl, g0, g1, g2, g3⟩; refine ⟨rfl, ?_⟩; obtain ⟨s0', s1', f1'⟩ := g1.cells; obtain ⟨s0b, s1b, f1b⟩ := (g1.same (Kept.alloc (Kept.refl _ w6) (.cells #[.int .i64 (xa : Int), .string xs.name, .int .i64 xs.ar, .bool xs.df] 138))).cells))
    all_goals
      go_wp2_with fail
      go_end0
      have hzz := HZ.out
      refine ⟨rfl, R8, ⟨.slice (some ⟨g, 0, none⟩) (a.length + 1) gcap, ?_, ?_, ?_, hdr, hdb⟩, g3, hlt, by simp; omega⟩
      · rw [dcCells_snoc, List.length_append]
        exact C8
      · exact Kept.at (Kept.setCell (p := ⟨vb, 0, none⟩) (Kept.refl (fun i => i = vb) w7) (fun _ => rfl) _) (hk7.behind.at g2 hdo) hdb
      · intro e
        simp only [Value.ownBlock, Option.some.injEq] at e
        subst e
        rcases hat7 with e | e
        · exact hdo e
        · have := lt_of_at g2; simp only [World.size_alloc] at e; omega
end Go.Proofs.YtbjfpfnfbgncnaaGreatDoor
