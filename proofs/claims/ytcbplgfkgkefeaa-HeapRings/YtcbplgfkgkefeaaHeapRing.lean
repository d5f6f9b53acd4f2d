/- The walks of Down and Ring of the document's layer 11. -/
import Derived.Test.YtcbplgfkgkefeaaHeapSame
namespace Go.Proofs.Ytcbplgfkgkefeaa
set_option maxRecDepth 100000
set_option linter.unusedVariables false
open Go.RowKit
attribute [local go_sem ↓] Go.wp_at_zero Go.wp_at_succ
set_option maxHeartbeats 1000000 in
theorem down_any {w : World} {x : Nd} {ao : Option Addr} {ac : Nat} (hx : ArgT w ao x.2.1 ac) :
    Calls Try.prog 19 #[nodeV x ao ac] w fun e w' => ∃ bo bc, e = .returned (.slice bo (downL x).length bc) ∧ IntsAt w' bo (downL x) ∧ (∀ a, bo = some a → ao = some a ∨ (w.heap.size ≤ a.block ∧ a.block < w'.heap.size)) ∧ Same0 w w' := by
  obtain ⟨W0, hW0⟩ : ∃ W0, W0 = w.alloc (.cells #[.int .i64 x.1, .slice ao x.2.1.length ac, .int .i64 x.2.2.1, .bool x.2.2.2.1, .int .i64 x.2.2.2.2] 45) := ⟨_, rfl⟩
  have k0 : Same0 w W0 := by rw [hW0]; exact (Kept.refl _ w).alloc _
  have hb : W0.heap[w.heap.size]? = some (.cells #[.int .i64 x.1, .slice ao x.2.1.length ac, .int .i64 x.2.2.1, .bool x.2.2.2.1, .int .i64 x.2.2.2.2] 45 (0, 0)) := by rw [hW0]; exact heap_alloc_new w _
  obtain ⟨b0, b1, b2, b3, b4⟩ := box5 hb
  have hz := k0.size
  obtain ⟨pb, hp⟩ : ∃ pb, x.2.2.2.1 = pb := ⟨_, rfl⟩
  cases pb
  · have hd : downL x = x.2.1 := by unfold downL; rw [hp]; rfl
    have H : Hid (IntsAt W0 ao x.2.1 ∧ Same0 w W0) := ⟨hx.1.at'.same k0, k0⟩
    rw [hd]
    rw [hp] at b3
    clear hd hx k0 hb hz hp
    go_enter Try.func19, Try.ntmps19
    go_upto_region 1 with fail
    rw [← hW0]
    clear hW0
    go_wp2
    go_ret
    exact ⟨ao, ac, rfl, H.out.1, fun a e => .inl e, H.out.2⟩
  · have hd : downL x = [x.2.2.2.2] := by unfold downL; rw [hp]; rfl
    have H : Hid (IntsAt (W0.alloc (.cells #[.int .i64 x.2.2.2.2] 3)) (some ⟨W0.heap.size, 0, none⟩) [x.2.2.2.2] ∧ (∀ a, some (⟨W0.heap.size, 0, none⟩ : Addr) = some a → ao = some a ∨ (w.heap.size ≤ a.block ∧ a.block < (W0.alloc (.cells #[.int .i64 x.2.2.2.2] 3)).heap.size)) ∧ Same0 w (W0.alloc (.cells #[.int .i64 x.2.2.2.2] 3))) := ⟨ints_one _ _, fun a e => by cases e; exact .inr ⟨hz, by simp⟩, k0.alloc _⟩
    rw [hd]
    rw [hp] at b3
    clear hd hx k0 hb hz hp
    go_enter Try.func19, Try.ntmps19
    go_upto_region 1 with fail
    rw [← hW0]
    clear hW0
    go_wp2
    go_ret
    exact ⟨_, 1, rfl, H.out.1, H.out.2.1, H.out.2.2⟩
/-- How many of the marks in a block are not set. -/
def falses (w : World) (mb N : Nat) : Nat := (List.range N).countP (fun i => match w.cell? ⟨mb, i, none⟩ with | some (.bool false) => true | _ => false)
theorem falses_row {w : World} {base mb N : Nat} {s : List Bool} (h : w.ownsRow base 4 1 (.slice (some ⟨mb, 0, none⟩) N N) N (bv s)) : falses w mb N = s.count false := by
  have hl : s.length = N := by have := h.1; simp [bv] at this; omega
  subst hl
  unfold falses
  have : ∀ i, i < s.length → (match w.cell? ⟨mb, i, none⟩ with | some (.bool false) => true | _ => false) = (s.getD i true == false) := fun i hi => by
    obtain ⟨b, h1, h2, _⟩ := row_bool h hi
    rw [h2, List.getD_eq_getElem?_getD, h1]
    cases b <;> rfl
  rw [List.countP_congr (q := fun i => s.getD i true == false) (fun i hi => by rw [this i (by simpa using hi)])]
  clear this h
  induction s with
  | nil => rfl
  | cons b t ih =>
    rw [List.length_cons, List.range_succ_eq_map, List.countP_cons, List.countP_map, List.count_cons]
    have : ((fun i => (b :: t).getD i true == false) ∘ Nat.succ) = fun i => t.getD i true == false := by funext i; simp
    rw [this, ih]
    simp
/-- Those that are marked. -/
def Mk (s : List Bool) (i : Nat) : Prop := s[i]? = some true
theorem Mk.set {s : List Bool} {k : Nat} (h : k < s.length) (i : Nat) : Mk (s.set k true) i ↔ Mk s i ∨ i = k := by
  unfold Mk
  rw [List.getElem?_set]
  by_cases e : k = i
  · subst e; simp [h]
  · rw [if_neg e]; constructor
    · exact .inl
    · rintro (q | q)
      · exact q
      · exact absurd q.symm e
theorem snd_set {l : List Nd} {s : List Bool} (h : Snd l (Mk s)) {k : Nat} (hk : k < s.length) (ha : ∀ j, Ed l k j → Mk s j) : Snd l (Mk (s.set k true)) := by
  obtain ⟨r, hr⟩ := h.more ha
  refine ⟨r, fun i j hi e => ?_⟩
  obtain ⟨q1, q2⟩ := hr i j ((Mk.set hk i).1 hi) e
  exact ⟨(Mk.set hk j).2 q1, q2⟩
theorem count_set {s : List Bool} {k : Nat} (h : s[k]? = some false) : (s.set k true).count false + 1 = s.count false := by
  obtain ⟨hk, hv⟩ := List.getElem?_eq_some_iff.1 h
  have hc : 0 < s.count false := List.count_pos_iff.2 (hv ▸ List.getElem_mem hk)
  rw [List.count_set hk]
  simp [hv]
  omega
/-- What a pass has come to: nothing has turned, and the first k are closed; or fewer are left. -/
def Pass (l : List Nd) (s0 : List Bool) (C k : Nat) (again : Bool) (s : List Bool) : Prop :=
  (again = false ∧ s = s0 ∧ ∀ j, j < k → (∀ m, Ed l j m → Mk s0 m) → Mk s0 j) ∨ (again = true ∧ s.count false < C)
end Go.Proofs.Ytcbplgfkgkefeaa
