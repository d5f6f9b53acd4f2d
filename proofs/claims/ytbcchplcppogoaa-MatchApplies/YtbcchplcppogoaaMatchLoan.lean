/- Binds that are lent, one by one: the state and its step. -/
import Derived.Test.YtbcchplcppogoaaMatchLent
import Derived.Test.YtbcchplcppogoaaMatchTable
import Derived.Deep.RegionHeld3
import Derived.Deep.RegionLaw
namespace Go.Proofs.Ytbcchplcppogoaa
set_option maxRecDepth 100000
set_option linter.unusedVariables false
open Go.RowKit
/-- A call, at a step of a region that draws its order, by its contract. -/
theorem step_call5 {ops : Array Oper} {o : Oper} {a : Act} {w : World} {K : Act → World → Prop} {Q : Exit → Act → World → Prop} {E : Prop} {f : FuncId} {args : Array Value} {R : Ending → World → Prop} (hgd : o.guard = none)
    (c : Calls Try.prog f args w R) (hrun : (execOp a.eval o).run Try.prog w = .ok (.enter f args) w) {v : Value} (hR : ∀ e w', R e w' → e = .returned v ∧ (K (a.put o.dst v) w')) :
    if Region.wanted o (yielded ops a.tmps) = true then Oper.wp Try.prog o a w K Q else E := by
  have hw : Region.wanted o (yielded ops a.tmps) = true := by simp [Region.wanted, hgd]
  rw [if_pos hw]
  unfold Oper.wp
  rw [hrun, Oper.upon_enter]
  refine c.mono fun e w' h => ?_
  obtain ⟨rfl, h2⟩ := hR e w' h
  exact h2
/-- append of one bind, at such a step. -/
theorem step_bind {w0 : World} {ops : Array Oper} {o : Oper} {a : Act} {K : Act → World → Prop} {Q : Exit → Act → World → Prop} {E : Prop} (hgd : o.guard = none) (s x : Operand)
    (ho : o.op = .call { callee := .builtin .append, args := #[s, x], argTypes := #[26, 26] })
    (base : Nat) (l : List (Int × Value)) (v : Value) (hs : a.eval s = v) (hr : w0.ownsRow base 46 2 v l.length (bcells l)) (n : Int) (tO : Option Addr) (tl tc : Nat) (hx : a.eval x = .slice (some ⟨w0.heap.size, 0, none⟩) 1 1) (hb : base ≤ w0.heap.size) (hsz : (l.length + 1) * 32 ≤ 140737488355328)
    (h : ∀ g cap w', w'.ownsRow base 46 2 (.slice (some ⟨g, 0, none⟩) (l.length + 1) cap) (l.length + 1) (bcells l ++ [.int .i64 n, .slice tO tl tc]) → Kept (fun k => v.ownBlock = some k) w0 w' → (v.ownBlock = some g ∨ w0.heap.size ≤ g) → K (a.put o.dst (.slice (some ⟨g, 0, none⟩) (l.length + 1) cap)) w') :
    if Region.wanted o (yielded ops a.tmps) = true then Oper.wp Try.prog o a (w0.alloc (.cells #[.int .i64 n, .slice tO tl tc] 46)) K Q else E := by
  obtain ⟨i, hi, hz0, hz1, hz2⟩ := info_parts info_bind
  refine step_append_lies _ hgd s x 26 ho base 46 i _ 2 32 Try.underlying26 hi hz0 hz1 hz2 rfl (by decide) v l.length (bcells l) hs (World.ownsRow.alloc hr _) ⟨w0.heap.size, 0, none⟩ 1 1 [.int .i64 n, .slice tO tl tc] hx rfl (World.news_of_block (cs := #[.int .i64 n, .slice tO tl tc]) (t := 46) (fr := (0, 0)) (heap_alloc_new w0 _)) (by simp [Value.oneCell']) (by omega) (by unfold maxLen; omega) hsz (by simp; omega) (w0.heap.size + 1) (by simp) ?_
  intro g cap w' hown hgrow hat hlt
  refine h g cap w' hown ?_ (hat.imp id (fun e => by omega))
  exact Kept.grown (Kept.alloc (Kept.refl _ w0) _) hgrow (fun _ e _ => e)
/-- So many binds are lent. -/
structure LB (base : Nat) (wr : World) (v : Value) (l : List (Int × Value)) (bs : List Bd) : Prop where
  row : wr.ownsRow base 46 2 v l.length (bcells l)
  len : l.length ≤ bs.length
  each : ∀ j (h : j < l.length) (h' : j < bs.length), l[j].1 = bs[j].1 ∧ ∃ g, l[j].2 = .slice (some ⟨g, 0, none⟩) bs[j].2.length (bs[j].2.length + 1) ∧ Row base wr (.slice (some ⟨g, 0, none⟩) (bs[j].2.length + 1) (bs[j].2.length + 1)) (bs[j].2 ++ [77]) ∧ v.ownBlock ≠ some g
theorem LB.nil (base : Nat) (w : World) (bs : List Bd) : LB base w (.slice none 0 0) [] bs := ⟨World.ownsRow_nil _ _ _ _, by simp, fun j h => by simp at h⟩
theorem LB.same {base : Nat} {w w' : World} {v : Value} {l : List (Int × Value)} {bs : List Bd} (h : LB base w v l bs) (hk : Same0 w w') : LB base w' v l bs :=
  ⟨hk.row h.row (fun _ _ f => f), h.len, fun j h1 h2 => by
    obtain ⟨e1, g, e2, e3, e4⟩ := h.each j h1 h2
    exact ⟨e1, g, e2, hk.row e3 (fun _ _ f => f), e4⟩⟩
theorem LB.more {base : Nat} {wr w6 w7 : World} {v : Value} {l : List (Int × Value)} {bs : List Bd} {g gc : Nat} (h : LB base wr v l bs) (hi : l.length < bs.length) (hb : base ≤ wr.heap.size) (k6 : Same0 wr w6) (hlt : wr.heap.size < w6.heap.size)
    (hr6 : Row wr.heap.size w6 (.slice (some ⟨wr.heap.size, 0, none⟩) (bs[l.length].2.length + 1) (bs[l.length].2.length + 1)) (bs[l.length].2 ++ [77]))
    (hr : w7.ownsRow base 46 2 (.slice (some ⟨g, 0, none⟩) (l.length + 1) gc) (l.length + 1) (bcells l ++ [.int .i64 bs[l.length].1, .slice (some ⟨wr.heap.size, 0, none⟩) bs[l.length].2.length (bs[l.length].2.length + 1)]))
    (k7 : Kept (fun k => v.ownBlock = some k) w6 w7) (hat : v.ownBlock = some g ∨ w6.heap.size ≤ g) :
    LB base w7 (.slice (some ⟨g, 0, none⟩) (l.length + 1) gc) (l ++ [(bs[l.length].1, .slice (some ⟨wr.heap.size, 0, none⟩) bs[l.length].2.length (bs[l.length].2.length + 1))]) bs := by
  have own : ∀ k, v.ownBlock = some k → k < wr.heap.size := fun k e => (h.row.lt k e).2
  refine ⟨by rw [bcells_snoc, List.length_append]; exact hr, by simp; omega, fun j h1 h2 => ?_⟩
  by_cases hj : j < l.length
  · rw [List.getElem_append_left hj]
    obtain ⟨e1, gj, e2, e3, e4⟩ := h.each j hj h2
    have hgl := (e3.lt gj rfl).2
    refine ⟨e1, gj, e2, k7.row (k6.row e3 (fun _ _ f => f)) (fun k q => by simp only [Value.ownBlock, Option.some.injEq] at q; subst q; exact e4), ?_⟩
    simp only [Value.ownBlock, ne_eq, Option.some.injEq]
    rintro rfl
    rcases hat with q | q
    · exact e4 q
    · omega
  · have hj2 : j = l.length := by simp at h1; omega
    subst hj2
    have e0 : (l ++ [(bs[l.length].1, Value.slice (some ⟨wr.heap.size, 0, none⟩) bs[l.length].2.length (bs[l.length].2.length + 1))])[l.length] = (bs[l.length].1, Value.slice (some ⟨wr.heap.size, 0, none⟩) bs[l.length].2.length (bs[l.length].2.length + 1)) := by simp
    rw [e0]
    refine ⟨rfl, wr.heap.size, rfl, row_mono (k7.row hr6 (fun k q f => by simp only [Value.ownBlock, Option.some.injEq] at q; subst q; have := own _ f; omega)) hb, ?_⟩
    simp only [Value.ownBlock, ne_eq, Option.some.injEq]
    rintro rfl
    rcases hat with q | q
    · have := own _ q; omega
    · omega
theorem LB.at' {base : Nat} {w : World} {v : Value} {l : List (Int × Value)} {bs : List Bd} (h : LB base w v l bs) (hl : l.length = bs.length) : ∃ lo cap, v = .slice lo bs.length cap ∧ BindsAt w lo bs := by
  rcases h.row.2 with ⟨rfl, h0⟩ | ⟨g, cap, cur, rfl, hb, hg, h1, h2, h3, h4⟩
  · have : bs = [] := List.eq_nil_of_length_eq_zero (by omega)
    subst this
    exact ⟨none, 0, rfl, .inl rfl⟩
  · refine ⟨some ⟨g, 0, none⟩, cap, by rw [hl], .inr ⟨g, 0, rfl, lt_of_at hg, fun i hi => ?_⟩⟩
    have hi' : i < l.length := by omega
    obtain ⟨e1, gj, e2, e3, e4⟩ := h.each i hi' hi
    obtain ⟨x1, x2⟩ := bcells_at hi'
    rw [Nat.zero_add]
    exact ⟨(h.row.cellAt (i * 2) (by omega)).trans (by rw [x1, e1]), _, _, (h.row.cellAt (i * 2 + 1) (by omega)).trans (by rw [x2, e2]), row_prefix e3, by omega, fun e => by cases e⟩
end Go.Proofs.Ytbcchplcppogoaa
