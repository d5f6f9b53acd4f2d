/- Numbers in memory, in a block of numbers; slices.Clone at numbers. -/
import Derived.Test.YtikcocjbbbdmgaaTermArgs
import Derived.Test.YtikcocjbbbdmgaaTermJoin
import Derived.Test.YtikcocjbbbdmgaaOpenCase
import Derived.Test.YtikcocjbbbdmgaaRefPut
namespace Go.Proofs.Ytikcocjbbbdmgaa
set_option maxRecDepth 100000
set_option linter.unusedVariables false
open Go.RowKit
attribute [local go_sem ↓] Go.wp_at_zero Go.wp_at_succ
/-- Numbers in memory, in a block of numbers. -/
def ArgT (w : World) (ao : Option Addr) (xs : List Int) (cap : Nat) : Prop := Arg w ao xs cap ∧ ∀ a, ao = some a → ∃ cur, w.heap[a.block]? = some (.cells cur 3 (0, 0))
theorem ArgT.kept {w w' : World} {ao : Option Addr} {xs : List Int} {cap : Nat} {S : Nat → Prop} (h : ArgT w ao xs cap) (hk : Kept S w w') (hS : ∀ k, S k → ∀ cur, w.heap[k]? ≠ some (.cells cur 3 (0, 0))) : ArgT w' ao xs cap := by
  have ne : ∀ a, ao = some a → ¬ S a.block := fun a e s => by
    obtain ⟨cur, hc⟩ := h.2 a e
    exact hS _ s cur hc
  refine ⟨⟨h.1.at'.kept hk ne, h.1.cap', h.1.nil, h.1.size⟩, fun a e => ?_⟩
  obtain ⟨cur, hc⟩ := h.2 a e
  exact ⟨cur, hk.at hc (ne a e)⟩
theorem ArgT.same {w w' : World} {ao : Option Addr} {xs : List Int} {cap : Nat} (h : ArgT w ao xs cap) (hk : Same0 w w') : ArgT w' ao xs cap := h.kept hk (fun _ f => f.elim)
theorem Row.arg {base : Nat} {w : World} {v : Value} {xs : List Int} (h : Row base w v xs) (hl : xs.length ≤ 100000) : ∃ ao ac, v = .slice ao xs.length ac ∧ ArgT w ao xs ac ∧ ∀ a, ao = some a → base ≤ a.block := by
  obtain ⟨ao, ac, e, h1, h2, h3⟩ := h.ints
  rcases h.2 with ⟨e2, h0⟩ | ⟨g, cap, cur, e2, hb, hg, hle, _⟩
  · rw [e] at e2
    simp only [Value.slice.injEq] at e2
    obtain ⟨rfl, _, rfl⟩ := e2
    exact ⟨none, 0, e, ⟨⟨h1, by omega, fun _ => ⟨h0, rfl⟩, by omega⟩, fun a e => by cases e⟩, fun a e => by cases e⟩
  · rw [e] at e2
    simp only [Value.slice.injEq] at e2
    obtain ⟨rfl, _, rfl⟩ := e2
    exact ⟨_, ac, e, ⟨⟨h1, hle, (fun e => by cases e), by omega⟩, fun a e => by cases e; exact ⟨cur, hg⟩⟩, fun a e => by cases e; exact hb⟩
theorem eqnilI (w : World) (a : Option Addr) (n c n' c' : Nat) : (binOp .eql 28 (.slice a n c) (.slice none n' c')).run Try.prog w = .ok (.bool a.isNone) w := Lib.run_eql_slice_nil w _ _ a n c n' c' Try.underlying28
set_option maxHeartbeats 1000000 in
theorem cloneI_any {w : World} {ao : Option Addr} {cap : Nat} {xs : List Int} (hx : Arg w ao xs cap) :
    Calls Try.prog 43 #[.slice ao xs.length cap] w fun e w' => ∃ v, e = .returned v ∧ Row w.heap.size w' v xs ∧ Same0 w w' := by
  have hnil := eqnilI
  have hsz := hx.size
  cases ao with
  | none =>
    obtain ⟨h0, rfl⟩ := hx.nil rfl
    obtain rfl : xs = [] := List.eq_nil_of_length_eq_zero h0
    go_enter Try.func43, Try.ntmps43
    go_wp2
    go_ret
    exact ⟨_, rfl, World.ownsRow_nil _ _ _ _, Kept.refl _ _⟩
  | some ad =>
    have k0 : Same0 w (w.alloc (.cells #[] 3)) := (Kept.refl _ w).alloc _
    have r0 : Row w.heap.size (w.alloc (.cells #[] 3)) (.slice (some ⟨w.heap.size, 0, none⟩) 0 0) [] := row_empty w _ (Nat.le_refl _) rfl
    have cI := hx.at'.same k0
    have z0 := k0.size
    clear hx
    go_enter Try.func43, Try.ntmps43
    go_wp2_with (first | (at_builtin; refine wpList_more rfl _ _ 28 rfl Try.underlying28 w.heap.size [] _ rfl r0 xs _ _ _ rfl rfl cI z0 (by simp; omega) ?_; intro v' w4 hr4 hk4))
    go_ret
    exact ⟨_, rfl, by simpa using hr4, k0.onto r0 hk4⟩
end Go.Proofs.Ytikcocjbbbdmgaa
