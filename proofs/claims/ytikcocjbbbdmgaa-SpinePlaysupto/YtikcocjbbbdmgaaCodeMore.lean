/- append of numbers, nil or not, to a row of the call's own. -/
import Derived.Test.YtikcocjbbbdmgaaRefPut
import Derived.Laws.AppendOwnNone
namespace Go.Proofs.Ytikcocjbbbdmgaa
set_option linter.unusedVariables false
open Go.RowKit
theorem wpList_more9 {w0 : World} {ops : Array Oper} {rest : List Oper} {o : Oper} {a : Act} {Q : Exit → Act → World → Prop} (hgd : o.guard = none) (s x : Operand) (t : TypeId)
    (ho : o.op = .call { callee := .builtin .append, args := #[s, x], argTypes := #[t, t] }) (ht : Try.prog.underlying t = some (.slice 3))
    (base : Nat) (xs : List Int) (v : Value) (hs : a.eval s = v) (hr : Row base w0 v xs) (ys : List Int) (ao : Option Addr) (m c : Nat) (hx : a.eval x = .slice ao m c) (hm : m = ys.length) (hy : IntsAt w0 ao ys) (hnil : ao = none → ys.length = 0 ∧ c = 0) (hb : base ≤ w0.heap.size) (hsz : (xs.length + ys.length) * 8 ≤ 140737488355328)
    (h : ∀ v' w', Row base w' v' (xs ++ ys) → Kept (fun k => v.ownBlock = some k) w0 w' → wpList Try.prog ops Q rest (a.put o.dst v') w') :
    wpList Try.prog ops Q (o :: rest) a w0 := by
  cases ao with
  | none =>
    obtain ⟨h1, rfl⟩ := hnil rfl
    have : ys = [] := List.eq_nil_of_length_eq_zero h1
    subst this
    subst hm
    obtain ⟨i, hi, hz0, hz1, hz2⟩ := info_parts info_intT
    exact wpList_append_own_none hgd s x t ho base 3 i 1 ht hi v xs.length (iv xs) hs hr hx (h v w0 (by simpa using hr) (Kept.refl _ _))
  | some ad => exact wpList_more hgd s x t ho ht base xs v hs hr ys ad m c hx hm hy hb hsz h
end Go.Proofs.Ytikcocjbbbdmgaa
