/- The walks of the document's Sub and Put. -/
import Derived.Test.YtikcocjbbbdmgaaLentKept
namespace Go.Proofs.Ytikcocjbbbdmgaa
set_option linter.unusedVariables false
open Go.RowKit
attribute [local go_sem ↓] Go.wp_at_zero Go.wp_at_succ
/-- append of numbers that lie in memory to a row of the call's own. -/
theorem wpList_more {w0 : World} {ops : Array Oper} {rest : List Oper} {o : Oper} {a : Act} {Q : Exit → Act → World → Prop} (hgd : o.guard = none) (s x : Operand) (t : TypeId)
    (ho : o.op = .call { callee := .builtin .append, args := #[s, x], argTypes := #[t, t] }) (ht : Try.prog.underlying t = some (.slice 3))
    (base : Nat) (xs : List Int) (v : Value) (hs : a.eval s = v) (hr : Row base w0 v xs) (ys : List Int) (ad : Addr) (m c : Nat) (hx : a.eval x = .slice (some ad) m c) (hm : m = ys.length) (hy : IntsAt w0 (some ad) ys) (hb : base ≤ w0.heap.size) (hsz : (xs.length + ys.length) * 8 ≤ 140737488355328)
    (h : ∀ v' w', Row base w' v' (xs ++ ys) → Kept (fun k => v.ownBlock = some k) w0 w' → wpList Try.prog ops Q rest (a.put o.dst v') w') :
    wpList Try.prog ops Q (o :: rest) a w0 := by
  subst hm
  obtain ⟨i, hi, hz0, hz1, hz2⟩ := info_parts info_intT
  refine wpList_append_own _ hgd s x t ho base 3 i (.int .i64 0) 1 8 ht hi hz0 hz1 hz2 rfl (by decide) v xs.length (iv xs) hs hr ad ys.length c (iv ys) hx (by rw [iv_length]; omega) (fun j u hj => ?_) (iv_oneCell ys) (by unfold maxLen; omega) hsz hb ?_
  · obtain ⟨ad', e, hc⟩ := hy.src (by have := (List.getElem?_eq_some_iff.1 hj).1; omega)
    cases e
    exact hc j u hj
  · intro v' w' hown hgrow _
    refine h v' w' ?_ (Kept.grown (Kept.refl _ w0) hgrow (fun _ e _ => e))
    unfold Row; rw [iv_append, List.length_append]; exact hown
theorem row_empty (w : World) (base : Nat) (hb : base ≤ w.heap.size) {o : Obj} (ho : o = .cells #[] 3 (0, 0)) : Row base (w.alloc o) (.slice (some ⟨w.heap.size, 0, none⟩) 0 0) [] := by
  subst ho
  exact ⟨rfl, .inr ⟨w.heap.size, 0, #[], rfl, hb, heap_alloc_new w _, Nat.le_refl _, by unfold maxLen; omega, rfl, rfl⟩⟩
end Go.Proofs.Ytikcocjbbbdmgaa
