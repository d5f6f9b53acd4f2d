/- The walk of the law's step: one call of a signature and of the document's. -/
import Derived.Test.YtaaoomociddopaaRanged
import Derived.Test.YtaaoomociddopaaCopy
import Derived.Deep.RegionWith
namespace Go.Proofs.Ytaaoomociddopaa
open Go.RowKit
attribute [local go_sem ↓] Go.wp_at_zero Go.wp_at_succ
/-- A signature and the document's, of the same symbols, apart in memory. -/
structure Pair (w : World) (b rb : Nat) (L : List Sym) (sv : Value) (mr : Option Nat) (rv : Value) : Prop where
  sg : SigAt w b L sv mr
  rf : RefAt w rb L rv
  ap : ∀ k, Foot b sv mr k → ¬ RFoot rb rv k
def PFoot (b rb : Nat) (sv : Value) (mr : Option Nat) (rv : Value) (k : Nat) : Prop := Foot b sv mr k ∨ RFoot rb rv k
def Stepped (w : World) (b rb : Nat) (sv : Value) (mr : Option Nat) (rv : Value) (w' : World) : Prop :=
  ∃ L' sv' mr' rv', Pair w' b rb L' sv' mr' rv' ∧ Kept (PFoot b rb sv mr rv) w w' ∧ ∀ k, PFoot b rb sv' mr' rv' k → PFoot b rb sv mr rv k ∨ w.heap.size ≤ k
theorem Pair.kept {S : Nat → Prop} {w w' : World} {b rb : Nat} {L : List Sym} {sv : Value} {mr : Option Nat} {rv : Value} (h : Pair w b rb L sv mr rv) (hk : Kept S w w') (hn : ∀ k, PFoot b rb sv mr rv k → ¬ S k) : Pair w' b rb L sv mr rv :=
  ⟨h.sg.kept hk (fun k e => hn k (.inl e)), h.rf.kept hk (fun k e => hn k (.inr e)), h.ap⟩
theorem Pair.lt {w : World} {b rb : Nat} {L : List Sym} {sv : Value} {mr : Option Nat} {rv : Value} (h : Pair w b rb L sv mr rv) : ∀ k, PFoot b rb sv mr rv k → k < w.heap.size := fun k hk => hk.elim (sig_foot_lt h.sg k) (h.rf.lt k)
theorem stepped_same {w w' : World} {b rb : Nat} {L : List Sym} {sv : Value} {mr : Option Nat} {rv : Value} (h : Pair w b rb L sv mr rv) (hk : Kept (fun _ => False) w w') : Stepped w b rb sv mr rv w' :=
  ⟨L, sv, mr, rv, h.kept hk (fun _ _ f => f), hk.mono (fun _ _ f => f.elim), fun _ e => .inl e⟩
abbrev opV (on kd n : Int) (x : Sym) : Value := .agg #[.int .i64 on, .int .i64 kd, .int .i64 n, .string x.name, .int .i64 x.ar, .bool x.df]
abbrev opO (on kd n : Int) (x : Sym) : Obj := .cells #[.int .i64 on, .int .i64 kd, .int .i64 n, .string x.name, .int .i64 x.ar, .bool x.df] 37 (0, 0)
theorem stepped_add {w w1 w2 w3 : World} {b rb : Nat} {L L' : List Sym} {sv : Value} {mr : Option Nat} {rv : Value} (h : Pair w b rb L sv mr rv) (hk : Kept (fun _ => False) w w1) (hm : Moved w1 b sv mr L' w2) (hr : RMoved w2 rb rv L' w3) : Stepped w b rb sv mr rv w3 := by
  obtain ⟨sv', mr', hs', hk', hf'⟩ := hm
  obtain ⟨rv', hr', hk2, hf2⟩ := hr
  have hz := hk.size
  have hz' := hk'.size
  have hap : ∀ k, Foot b sv' mr' k → ¬ RFoot rb rv k := fun k e e' => by
    rcases hf' k e with e1 | e1
    · exact h.ap k e1 e'
    · have := h.rf.lt k e'; omega
  refine ⟨L', sv', mr', rv', ⟨hs'.kept hk2 hap, hr', fun k e e' => ?_⟩, ?_, fun k e => ?_⟩
  · rcases hf2 k e' with e1 | e1
    · exact hap k e e1
    · have := sig_foot_lt hs' k e; omega
  · exact ((hk.mono (fun _ _ f => f.elim)).trans hk' (fun _ _ e => .inl e)).trans hk2 (fun _ _ e => .inr e)
  · rcases e with e | e
    · exact (hf' k e).imp (fun e => .inl e) (fun e => by omega)
    · exact (hf2 k e).imp (fun e => .inr e) (fun e => by omega)
set_option maxHeartbeats 2000000 in
theorem step_add {w : World} {b rb : Nat} {L : List Sym} {sv : Value} {mr : Option Nat} {rv : Value} (h : Pair w b rb L sv mr rv) (on n : Int) (x : Sym) (hs : x.name.size ≤ maxLen) :
    Calls Try.prog 15 #[.pointer (some ⟨b, 0, none⟩), .pointer (some ⟨rb, 0, none⟩), opV on 1 n x] w fun e w' => e = .returned (.bool true) ∧ Stepped w b rb sv mr rv w' := by
  have hka : Kept (fun _ => False) w (w.alloc (opO on 1 n x)) := Kept.alloc (Kept.refl _ w) _
  have h1 := h.kept hka (fun _ _ f => f)
  have hlen := h.sg.len
  go_enter Try.func15, Try.ntmps15
  go_wp2_with fail
  refine (add_any h1.sg x hs).mono ?_
  rintro e w2 ⟨rfl, hm⟩
  have hk2 : Kept (Foot b sv mr) (w.alloc (opO on 1 n x)) w2 := hm.choose_spec.choose_spec.2.1
  have hbx : w2.heap[w.heap.size]? = some (opO on 1 n x) := hk2.at (heap_alloc_new w _) (fun e => by have := sig_foot_lt h.sg _ e; omega)
  have y3 : w2.cell? ⟨w.heap.size, 3, none⟩ = some (.string x.name) := cellAt hbx 3
  have y4 : w2.cell? ⟨w.heap.size, 4, none⟩ = some (.int .i64 x.ar) := cellAt hbx 4
  have y5 : w2.cell? ⟨w.heap.size, 5, none⟩ = some (.bool x.df) := cellAt hbx 5
  have hr2 : RefAt w2 rb L rv := h1.rf.kept hk2 (fun k e e' => h.ap k e' e)
  go_wp2_with fail
  refine (radd_any hr2 hlen x hs).mono ?_
  rintro e w3 ⟨rfl, hr3⟩
  go_wp2
  go_ret
  exact ⟨by simp, stepped_add h hka hm hr3⟩
set_option maxHeartbeats 2000000 in
theorem step_find {w : World} {b rb : Nat} {L : List Sym} {sv : Value} {mr : Option Nat} {rv : Value} (h : Pair w b rb L sv mr rv) (on n : Int) (x : Sym) (hs : x.name.size ≤ maxLen) :
    Calls Try.prog 15 #[.pointer (some ⟨b, 0, none⟩), .pointer (some ⟨rb, 0, none⟩), opV on 3 n x] w fun e w' => e = .returned (.bool true) ∧ Stepped w b rb sv mr rv w' := by
  have hka : Kept (fun _ => False) w (w.alloc (opO on 3 n x)) := Kept.alloc (Kept.refl _ w) _
  have h1 := h.kept hka (fun _ _ f => f)
  have h2 : ∀ m, Pair ((w.alloc (opO on 3 n x)).drewN m) b rb L sv mr rv := fun m => h1.kept (Kept.drewN (Kept.refl (fun _ => False) _) m) (fun _ _ f => f)
  have hlen := h.sg.len
  obtain ⟨ao, cap, rfl⟩ := row_shape h.rf.row
  have r0 := h1.rf.c0
  have hfa := find_any h1.sg x.name hs
  cases hf : findI L x.name with
  | none =>
    rw [hf] at hfa
    have hfr : findR L x.name = -1 := by rw [findR, hf]
    go_enter Try.func15, Try.ntmps15
    go_wp2_with (first | (go_at_call 21; refine hfa.mono ?_; rintro e w' ⟨rfl, rfl⟩))
    go_quiet ((go_at_call 32; exact Calls.quiet_of_same (rfind_any (h2 _).rf.row hlen x.name)))
    go_wp2
    go_ret
    exact ⟨rfl, stepped_same h (hka.drewN _)⟩
  | some i =>
    rw [hf] at hfa
    have hfr : findR L x.name = (i : Int) := by rw [findR, hf]
    go_enter Try.func15, Try.ntmps15
    go_wp2_with (first | (go_at_call 21; refine hfa.mono ?_; rintro e w' ⟨rfl, rfl⟩))
    go_quiet ((go_at_call 32; exact Calls.quiet_of_same (rfind_any (h2 _).rf.row hlen x.name)))
    go_wp2
    go_ret
    exact ⟨by simp [hfr], stepped_same h (hka.drewN _)⟩
set_option maxHeartbeats 2000000 in
theorem step_len {w : World} {b rb : Nat} {L : List Sym} {sv : Value} {mr : Option Nat} {rv : Value} (h : Pair w b rb L sv mr rv) (on n : Int) (x : Sym) :
    Calls Try.prog 15 #[.pointer (some ⟨b, 0, none⟩), .pointer (some ⟨rb, 0, none⟩), opV on 7 n x] w fun e w' => e = .returned (.bool true) ∧ Stepped w b rb sv mr rv w' := by
  have hka : Kept (fun _ => False) w (w.alloc (opO on 7 n x)) := Kept.alloc (Kept.refl _ w) _
  have h1 := h.kept hka (fun _ _ f => f)
  have h2 : ∀ m, Pair ((w.alloc (opO on 7 n x)).drewN m) b rb L sv mr rv := fun m => h1.kept (Kept.drewN (Kept.refl (fun _ => False) _) m) (fun _ _ f => f)
  have hlen := h.sg.len
  obtain ⟨ao, cap, rfl⟩ := row_shape h.rf.row
  have r0 := h1.rf.c0
  go_enter Try.func15, Try.ntmps15
  go_wp2_with fail
  go_quiet ((go_at_call 19; exact Calls.quiet_of_same (len_any (h2 _).sg)))
  go_wp2
  go_ret
  exact ⟨by simp, stepped_same h (hka.drewN _)⟩
end Go.Proofs.Ytaaoomociddopaa
