/- The walks of the document's Sub and Put. -/
import Derived.Test.YthhcnllabhfejaaLentKept
namespace Go.Proofs.Ythhcnllabhfejaa
set_option linter.unusedVariables false
open Go.RowKit
attribute [local go_sem ↓] Go.wp_at_zero Go.wp_at_succ
/-- append of numbers that lie in memory to a row of the call's own. -/
theorem wpList_more {w0 : World} {ops : Array Oper} {rest : List Oper} {o : Oper} {a : Act} {Q : Exit → Act → World → Prop} (hgd : o.guard = none) (s x : Operand) (t : TypeId)
    (ho : o.op = .call { callee := .builtin .append, args := #[s, x], argTypes := #[t, t] }) (ht : Try.prog.underlying t = some (.slice 3))
    (base : Nat) (xs : List Int) (v : Value) (hs : a.eval s = v) (hr : Row base w0 v xs) (ys : List Int) (ad : Addr) (m c : Nat) (hx : a.eval x = .slice (some ad) m c) (hm : m = ys.length) (hy : IntsAt w0 (some ad) ys) (hb : base ≤ w0.heap.size) (hsz : (xs.length + ys.length) * 8 ≤ 140737488355328)
    (h : ∀ v' w', Row base w' v' (xs ++ ys) → Kept (fun k => v.ownBlock = some k) w0 w' → wpList Try.prog ops Q rest (a.put o.dst v') w') :
    wpList Try.prog ops Q (o :: rest) a w0 := by
  subst hm
  obtain ⟨i, hi, hz0, hz1, hz2⟩ := info_parts info_intT
  refine wpList_append_own _ hgd s x t ho base 3 i (.int .i64 0) 1 8 ht hi hz0 hz1 hz2 rfl (by decide) v xs.length (iv xs) hs hr ad ys.length c (iv ys) hx (by rw [iv_length]; omega) (fun j u hj => ?_) (iv_oneCell ys) (by unfold maxLen; omega) hsz hb ?_
  · obtain ⟨ad', e, hc⟩ := hy.src (by have := (List.getElem?_eq_some_iff.1 hj).1; omega)
    cases e
    exact hc j u hj
  · intro v' w' hown hgrow _
    refine h v' w' ?_ (Kept.grown (Kept.refl _ w0) hgrow (fun _ e _ => e))
    unfold Row; rw [iv_append, List.length_append]; exact hown
theorem row_empty (w : World) (base : Nat) (hb : base ≤ w.heap.size) {o : Obj} (ho : o = .cells #[] 3 (0, 0)) : Row base (w.alloc o) (.slice (some ⟨w.heap.size, 0, none⟩) 0 0) [] := by
  subst ho
  exact ⟨rfl, .inr ⟨w.heap.size, 0, #[], rfl, hb, heap_alloc_new w _, Nat.le_refl _, by unfold maxLen; omega, rfl, rfl⟩⟩
set_option maxHeartbeats 2000000 in
theorem rsub_any {n : Nat} {w : World} {rv : Value} {L : List Sym} (h : Rl n w rv L) {ao : Option Addr} {cap : Nat} {t : List Int} (ht : IntsAt w ao t) (hm : t.length ≤ 2000) (hcap : t.length ≤ cap) (hT : IsT L t) (p : Nat) (hp : p < t.length) :
    Calls Try.prog 28 #[rv, .slice ao t.length cap, .int .i64 (p : Int)] w fun e w' => ∃ v, e = .returned v ∧ Row w.heap.size w' v (subN L t p) ∧ Same0 w w' := by
  have c2 : ∀ w1, Same0 w w1 → Calls Try.prog 46 #[rv, .slice ao t.length cap, .int .i64 (p : Int)] w1 fun e w' => e = .returned (.int .i64 (endN L t p : Int)) ∧ w' = w1 := fun w1 hk => rend_any (cap := cap) (h.same hk) (ht.same hk) hm p (by omega)
  obtain ⟨ro, rcap, rfl⟩ := row_shape h.1
  obtain ⟨hl1, hl2⟩ := endN_le hT hp
  obtain ⟨tb, off, rfl, htb, hc⟩ := ht.get hp
  have hsl := sub_length hT hp
  have i0 : ¬ (p : Int) < 0 := by omega
  have i1 : (0 : Int) ≤ (p : Int) := by omega
  have i2 : (p : Int) ≤ (endN L t p : Int) := by omega
  have i3 : (endN L t p : Int) ≤ (cap : Int) := by omega
  have i4 : ¬ cap = p := by omega
  have i5 : (p : Int) < (t.length : Int) := by omega
  have cutI : ∀ w1, Same0 w w1 → IntsAt w1 (some ⟨tb, off + p, none⟩) (subN L t p) := fun w1 hk => (ht.same hk).cut p (endN L t p)
  go_enter Try.func28, Try.ntmps28
  have k0 : Same0 w (w.alloc (.cells #[] 3)) := (Kept.refl _ w).alloc _
  have r0 : Row w.heap.size (w.alloc (.cells #[] 3)) (.slice (some ⟨w.heap.size, 0, none⟩) 0 0) [] := row_empty w _ (Nat.le_refl _) rfl
  have cI := cutI _ k0
  have c3 := c2 _ k0
  have z0 := k0.size
  clear c2 cutI
  go_wp2_with (first | (go_at_call 46; refine c3.mono ?_; rintro e w' ⟨rfl, rfl⟩) | (at_builtin; refine wpList_more rfl _ _ 25 rfl Try.underlying25 w.heap.size [] _ rfl r0 (subN L t p) _ _ _ rfl (by omega) cI z0 (by simp; omega) ?_; intro v' w4 hr4 hk4))
  go_ret
  exact ⟨_, rfl, by simpa using hr4, k0.onto r0 hk4⟩
end Go.Proofs.Ythhcnllabhfejaa
