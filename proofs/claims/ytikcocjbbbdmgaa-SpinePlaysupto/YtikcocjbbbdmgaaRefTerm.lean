/- The walks of the document's term (ref02): arity, Check, End, Args, Sub, Put. -/
import Derived.Test.YtikcocjbbbdmgaaAwake2
namespace Go.Proofs.Ytikcocjbbbdmgaa
set_option maxRecDepth 100000
set_option linter.unusedVariables false
open Go.RowKit
attribute [local go_sem ↓] Go.wp_at_zero Go.wp_at_succ
theorem need_take {L : List Sym} {t : List Int} {p k : Nat} (h : need L 1 (t.take p) = some k) (hp : p < t.length) : (k = 0 → ¬ need L 1 t = some 0) ∧ (∀ j, k = j + 1 → need L 1 (t.take (p + 1)) = some (j + arN L t[p])) := by
  have e : t = t.take p ++ (t[p] :: t.drop (p + 1)) := by rw [← List.drop_eq_getElem_cons hp, List.take_append_drop]
  constructor
  · rintro rfl hn
    rw [e, need_append, h, Option.bind_some, need] at hn
    cases hn
  · rintro j rfl
    rw [List.take_add_one, need_append, h, List.getElem?_eq_getElem hp]
    simp [need]
theorem checkE_shape {L : List Sym} {t : List Int} (h : ¬ 2000 < t.length) (hb : badE L t = 0) : checkE L t = if need L 1 t = some 0 then 0 else 23 := by
  simp [checkE, h, hb]
/-- append of one number to a row of the call's own. -/
theorem wpList_push {w0 : World} {ops : Array Oper} {rest : List Oper} {o : Oper} {a : Act} {Q : Exit → Act → World → Prop} (hgd : o.guard = none) (s x : Operand) (t : TypeId)
    (ho : o.op = .call { callee := .builtin .append, args := #[s, x], argTypes := #[t, t] }) (ht : Try.prog.underlying t = some (.slice 3))
    (base : Nat) (xs : List Int) (v : Value) (hs : a.eval s = v) (hr : Row base w0 v xs) (y : Int) (hx : a.eval x = .slice (some ⟨w0.heap.size, 0, none⟩) 1 1) (hb : base ≤ w0.heap.size) (hsz : (xs.length + 1) * 8 ≤ 140737488355328)
    (h : ∀ g cap w', Row base w' (.slice (some ⟨g, 0, none⟩) (xs.length + 1) cap) (xs ++ [y]) → Kept (fun k => v.ownBlock = some k) w0 w' → (v.ownBlock = some g ∨ w0.heap.size ≤ g) → wpList Try.prog ops Q rest (a.put o.dst (.slice (some ⟨g, 0, none⟩) (xs.length + 1) cap)) w') :
    wpList Try.prog ops Q (o :: rest) a (w0.alloc (.cells #[.int .i64 y] 3)) := by
  obtain ⟨i, hi, hz0, hz1, hz2⟩ := info_parts info_intT
  refine wpList_append_lies _ hgd s x t ho base 3 i (.int .i64 0) 1 8 ht hi hz0 hz1 hz2 rfl (by decide) v xs.length (iv xs) hs (hr.alloc _) ⟨w0.heap.size, 0, none⟩ 1 1 [.int .i64 y] hx rfl (cell_one_new _ _ _) (by simp [Value.oneCell']) (by omega) (by unfold maxLen; omega) hsz (by simp; omega) (w0.heap.size + 1) (by simp) ?_
  intro g cap w' hown hgrow hat hlt
  refine h g cap w' ?_ ?_ (hat.imp id (fun e => by omega))
  · unfold Row; rw [iv_append, List.length_append]; exact hown
  · exact Kept.grown (Kept.alloc (Kept.refl _ w0) _) hgrow (fun _ e _ => e)
theorem Same0.onto {w w0 w' : World} {v : Value} {xs : List Int} (h : Same0 w w0) (hr : Row w.heap.size w0 v xs) (hk : Kept (fun k => v.ownBlock = some k) w0 w') : Same0 w w' :=
  h.trans hk (fun i hi e => by have := (hr.lt i e).1; omega)
end Go.Proofs.Ytikcocjbbbdmgaa
