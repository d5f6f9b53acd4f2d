/- The walks of the three takers. -/
import Derived.Test.YtikcocjbbbdmgaaSpineEach
import Derived.Lib.AppendZeros
namespace Go.Proofs.Ytikcocjbbbdmgaa
set_option maxRecDepth 100000
set_option linter.unusedVariables false
open Go.RowKit
attribute [local go_sem ↓] Go.wp_at_zero Go.wp_at_succ
theorem append_types {P : Program} {w : World} {t t2 ty e e2 : TypeId} {i : TypeInfo} (ht : P.underlying t = some (.slice e)) (ht2 : P.underlying t2 = some (.slice e2)) (hi : P.info? e = some i) (b : Option Addr) (n c : Nat) (x : Value) : (Builtin.append_ #[t, t2] ty #[.slice b n c, x]).run P w = (Builtin.append_ #[t, t] ty #[.slice b n c, x]).run P w := by
  simp [Builtin.append_, run_underlying ht, run_underlying ht2, sizeOf, typeInfo, hi]
/-- append of numbers that lie in memory, nil or not, to a row, in a drawn region. -/
theorem step_ints {w0 : World} {ops : Array Oper} {o : Oper} {a : Act} {K : Act → World → Prop} {Q : Exit → Act → World → Prop} {E : Prop} (hgd : o.guard = none) (s x : Operand) (t t2 : TypeId)
    (ho : o.op = .call { callee := .builtin .append, args := #[s, x], argTypes := #[t, t2] }) (ht : Try.prog.underlying t = some (.slice 3)) (ht2 : Try.prog.underlying t2 = some (.slice 3))
    (base : Nat) (xs : List Int) (v : Value) (hs : a.eval s = v) (hr : Row base w0 v xs) (ys : List Int) (ao : Option Addr) (m c : Nat) (hx : a.eval x = .slice ao m c) (hm : m = ys.length) (hy : IntsAt w0 ao ys) (hnil : ao = none → ys.length = 0 ∧ c = 0) (hb : base ≤ w0.heap.size) (hsz : (xs.length + ys.length) * 8 ≤ 140737488355328)
    (h : ∀ uo uc w', Row base w' (.slice uo (xs.length + ys.length) uc) (xs ++ ys) → Kept (fun k => v.ownBlock = some k) w0 w' → K (a.put o.dst (.slice uo (xs.length + ys.length) uc)) w') :
    if Region.wanted o (yielded ops a.tmps) = true then Oper.wp Try.prog o a w0 K Q else E := by
  obtain ⟨vo, vc, rfl⟩ := row_shape hr
  have hw : Region.wanted o (yielded ops a.tmps) = true := by simp [Region.wanted, hgd]
  rw [if_pos hw]
  subst hm
  obtain ⟨i, hi, hz0, hz1, hz2⟩ := info_parts info_intT
  cases ao with
  | none =>
    obtain ⟨h1, rfl⟩ := hnil rfl
    have : ys = [] := List.eq_nil_of_length_eq_zero h1
    subst this
    have hrun := run_append_owned_none (P := Try.prog) (w := w0) base t o.type 3 i 1 ht hi _ xs.length (iv xs) hr
    rw [← append_types ht ht2 hi] at hrun
    exact Lib.wp_append_run w0 s x t t2 ho _ _ hs hx _ _ hrun (h _ _ w0 (by simpa using hr) (Kept.refl _ _))
  | some ad =>
    obtain ⟨v', w', hrun, hown, hgrow, _⟩ := run_append_own (P := Try.prog) w0 base t o.type 3 i (.int .i64 0) 1 8 ht hi hz0 hz1 hz2 rfl (by decide) _ xs.length (iv xs) hr ad ys.length c (iv ys) (by rw [iv_length]; omega) (fun j u hj => by
      obtain ⟨ad', e, hc⟩ := hy.src (by have := (List.getElem?_eq_some_iff.1 hj).1; omega)
      cases e
      exact hc j u hj) (iv_oneCell ys) (by unfold maxLen; omega) hsz hb
    rw [← append_types ht ht2 hi] at hrun
    obtain ⟨uo, uc, rfl⟩ := row_shape hown
    refine Lib.wp_append_run w0 s x t t2 ho _ _ hs hx _ _ hrun (h uo uc w' ?_ (Kept.grown (Kept.refl _ w0) hgrow (fun _ e _ => e)))
    unfold Row; rw [iv_append, List.length_append]; exact hown
/-- A row of numbers in a box. -/
structure BxI (t : TypeId) (base : Nat) (w : World) (q : Nat) (v : Value) (xs : List Int) : Prop where
  box : w.heap[q]? = some (.cells #[v] t (0, 0))
  row : Row base w v xs
  low : base ≤ q
  dif : t ≠ 3
theorem BxI.ne {t : TypeId} {base : Nat} {w : World} {q : Nat} {v : Value} {xs : List Int} (h : BxI t base w q v xs) : v.ownBlock ≠ some q := fun e => by
  rcases h.row.2 with ⟨e2, _⟩ | ⟨g, cap, cur, e2, _, hg, _⟩
  · rw [e2] at e; cases e
  · rw [e2] at e
    have : g = q := Option.some.inj e
    have hb := h.box
    rw [← this, hg] at hb
    simp only [Option.some.injEq, Obj.cells.injEq] at hb
    exact h.dif hb.2.1.symm
theorem BxI.same {t : TypeId} {base : Nat} {w w' : World} {q : Nat} {v : Value} {xs : List Int} (h : BxI t base w q v xs) (hk : Same0 w w') : BxI t base w' q v xs := ⟨hk.at0 h.box, hk.row h.row (fun _ _ f => f), h.low, h.dif⟩
theorem BxI.turn {t : TypeId} {base : Nat} {w w9 : World} {q : Nat} {v v' : Value} {xs ys : List Int} (h : BxI t base w q v xs) (hk : Kept (fun k => v.ownBlock = some k) w w9) (r : Row base w9 v' ys) :
    BxI t base (w9.setCell ⟨q, 0, none⟩ v') q v' ys ∧ Kept (fun k => k = q ∨ v.ownBlock = some k) w (w9.setCell ⟨q, 0, none⟩ v') ∧ w9.cell? ⟨q, 0, none⟩ = some v ∧ w9.frozen? ⟨q, 0, none⟩ = false := by
  have b9 := hk.at h.box h.ne
  have ks : Kept (fun k => k = q) w9 (w9.setCell ⟨q, 0, none⟩ v') := Kept.setCell (S := fun k => k = q) (Kept.refl _ _) (p := ⟨q, 0, none⟩) (fun _ => rfl) _
  refine ⟨⟨by rw [setAt b9]; rfl, ks.row r (fun k e f => ?_), h.low, h.dif⟩, (hk.mono (fun _ _ e => .inr e)).trans ks (fun _ _ e => .inl e), cellAt b9 0, frozenAt b9 0⟩
  rcases r.2 with ⟨e2, _⟩ | ⟨g, cap, cur, e2, _, hg, _⟩
  · rw [e2] at e; cases e
  · rw [e2] at e
    have : g = k := Option.some.inj e
    rw [this, f, b9] at hg
    simp only [Option.some.injEq, Obj.cells.injEq] at hg
    exact h.dif hg.2.1
set_option maxHeartbeats 2000000 in
theorem take_path {base : Nat} {w : World} {q : Nat} {v : Value} {xs : List Int} (p : BxI 60 base w q v xs) {x : Fr} {ao : Option Addr} {ac : Nat} (hx : Arg w ao x.2.2.2 ac) (hl : (xs.length + x.2.2.2.length) * 8 ≤ 140737488355328) :
    Calls Try.prog 39 #[.pointer (some ⟨q, 0, none⟩), frV x ao ac] w fun e w' => (∃ u, e = .returned u) ∧ ∃ v', BxI 60 base w' q v' (xs ++ x.2.2.2) ∧ Kept (fun k => k = q ∨ v.ownBlock = some k) w w' := by
  obtain ⟨W0, hW0⟩ : ∃ W0, W0 = w.alloc (.cells #[.int .i64 x.1, .bool x.2.1, .int .i64 x.2.2.1, .slice ao x.2.2.2.length ac] 30) := ⟨_, rfl⟩
  have k0 : Same0 w W0 := by rw [hW0]; exact (Kept.refl _ w).alloc _
  have hb0 : W0.heap[w.heap.size]? = some (.cells #[.int .i64 x.1, .bool x.2.1, .int .i64 x.2.2.1, .slice ao x.2.2.2.length ac] 30 (0, 0)) := by rw [hW0]; exact heap_alloc_new w _
  have kd : Same0 w W0.drew := k0.drew
  have kd' : Same0 W0 W0.drew := (Kept.refl _ _).drew
  have pd := p.same kd
  obtain ⟨d1, d2, d3, d4⟩ := box4 (kd'.at0 hb0)
  have c0 := cellAt pd.box 0
  have hr := pd.row
  have hI := hx.at'.same kd
  have hnil := hx.nil
  have hbs : base ≤ W0.drew.heap.size := Nat.le_trans p.low (Nat.le_trans (Nat.le_of_lt (lt_of_at p.box)) kd.size)
  have FIN : Hid (∀ v' w9, Row base w9 v' (xs ++ x.2.2.2) → Kept (fun k => v.ownBlock = some k) W0.drew w9 → (w9.cell? ⟨q, 0, none⟩ = some v ∧ w9.frozen? ⟨q, 0, none⟩ = false) ∧ Hid (∃ v', BxI 60 base (w9.setCell ⟨q, 0, none⟩ v') q v' (xs ++ x.2.2.2) ∧ Kept (fun k => k = q ∨ v.ownBlock = some k) w (w9.setCell ⟨q, 0, none⟩ v')) ∧ Hid (BxI 60 base (w9.setCell ⟨q, 0, none⟩ v') q v' (xs ++ x.2.2.2) ∧ Kept (fun k => k = q ∨ v.ownBlock = some k) w (w9.setCell ⟨q, 0, none⟩ v'))) := fun v' w9 r9 k9 => by
    obtain ⟨q1, q2, q3, q4⟩ := pd.turn k9 r9
    have q5 := (Kept.mono kd (fun _ _ f => f.elim)).trans q2 (fun _ _ e => e)
    exact ⟨⟨q3, q4⟩, ⟨_, q1, q5⟩, q1, q5⟩
  obtain ⟨vo, vc, rfl⟩ := row_shape p.row
  have HR : Hid (Row base W0.drew (.slice vo xs.length vc) xs) := hr
  clear hx p k0 hb0 kd kd' pd hr
  go_enter Try.func39, Try.ntmps39
  go_upto_region 1 with fail
  rw [← hW0]
  clear hW0
  go_region_law (first
    | (refine step_ints (by rfl) _ _ 60 28 (by rfl) Try.underlying60 Try.underlying28 base xs (.slice vo xs.length vc) (by rfl) HR.out x.2.2.2 ao _ ac (by rfl) (by rfl) hI hnil hbs hl ?_; intro uo uc w9 r9 k9; obtain ⟨⟨y0, y1⟩, -, FF⟩ := FIN.out _ w9 r9 k9))
  all_goals
    go_wp2
    first | go_end0 | (refine bodyPost_ret (results_none rfl _ _ _) rfl ?_)
    exact ⟨⟨_, rfl⟩, _, FF.out.1, FF.out.2⟩
set_option maxHeartbeats 2000000 in
theorem take_nodes {base : Nat} {w : World} {q : Nat} {v : Value} {xs : List Int} (p : BxI 63 base w q v xs) {x : Fr} {ao : Option Addr} {ac : Nat} (hl : (xs.length + 1) * 8 ≤ 140737488355328) :
    Calls Try.prog 41 #[.pointer (some ⟨q, 0, none⟩), frV x ao ac] w fun e w' => (∃ u, e = .returned u) ∧ ∃ v', BxI 63 base w' q v' (xs ++ [x.1]) ∧ Kept (fun k => k = q ∨ v.ownBlock = some k) w w' := by
  obtain ⟨W0, hW0⟩ : ∃ W0, W0 = w.alloc (.cells #[.int .i64 x.1, .bool x.2.1, .int .i64 x.2.2.1, .slice ao x.2.2.2.length ac] 30) := ⟨_, rfl⟩
  have k0 : Same0 w W0 := by rw [hW0]; exact (Kept.refl _ w).alloc _
  have hb0 : W0.heap[w.heap.size]? = some (.cells #[.int .i64 x.1, .bool x.2.1, .int .i64 x.2.2.1, .slice ao x.2.2.2.length ac] 30 (0, 0)) := by rw [hW0]; exact heap_alloc_new w _
  have kd : Same0 w W0.drew := k0.drew
  have kd' : Same0 W0 W0.drew := (Kept.refl _ _).drew
  have ka : Same0 w (W0.drew.alloc (.cells #[.int .i64 x.1] 3)) := kd.alloc _
  obtain ⟨d1, d2, d3, d4⟩ := box4 (kd'.at0 hb0)
  have c0 := cellAt (p.same kd).box 0
  have c1 : (W0.alloc (.cells #[.int .i64 x.1] 3)).cell? ⟨q, 0, none⟩ = some v := cellAt (p.same (show Same0 w _ from k0.alloc _)).box 0
  have pa := p.same ka
  have hI : IntsAt (W0.drew.alloc (.cells #[.int .i64 x.1] 3)) (some ⟨W0.drew.heap.size, 0, none⟩) [x.1] := .inr ⟨_, 0, rfl, by simp, fun i hi => by
    obtain rfl : i = 0 := by simp at hi; omega
    exact cellAt (heap_alloc_new W0.drew (.cells #[.int .i64 x.1] 3)) 0⟩
  have hbs : base ≤ (W0.drew.alloc (.cells #[.int .i64 x.1] 3)).heap.size := Nat.le_trans p.low (Nat.le_trans (Nat.le_of_lt (lt_of_at p.box)) ka.size)
  have FIN : Hid (∀ v' w9, Row base w9 v' (xs ++ [x.1]) → Kept (fun k => v.ownBlock = some k) (W0.drew.alloc (.cells #[.int .i64 x.1] 3)) w9 → (w9.cell? ⟨q, 0, none⟩ = some v ∧ w9.frozen? ⟨q, 0, none⟩ = false) ∧ Hid (BxI 63 base (w9.setCell ⟨q, 0, none⟩ v') q v' (xs ++ [x.1]) ∧ Kept (fun k => k = q ∨ v.ownBlock = some k) w (w9.setCell ⟨q, 0, none⟩ v'))) := fun v' w9 r9 k9 => by
    obtain ⟨q1, q2, q3, q4⟩ := pa.turn k9 r9
    have q5 := (Kept.mono ka (fun _ _ f => f.elim)).trans q2 (fun _ _ e => e)
    exact ⟨⟨q3, q4⟩, q1, q5⟩
  obtain ⟨vo, vc, rfl⟩ := row_shape p.row
  have HR : Hid (Row base (W0.drew.alloc (.cells #[.int .i64 x.1] 3)) (.slice vo xs.length vc) xs) := pa.row
  clear p k0 hb0 kd kd' pa ka
  go_enter Try.func41, Try.ntmps41
  go_upto_region 1 with fail
  rw [← hW0]
  clear hW0
  go_region_law (first
    | (refine step_ints (by rfl) _ _ 63 63 (by rfl) Try.underlying63 Try.underlying63 base xs (.slice vo xs.length vc) (by rfl) HR.out [x.1] (some ⟨W0.drew.heap.size, 0, none⟩) _ 1 (by rfl) (by rfl) hI (fun e => by cases e) hbs hl ?_; intro uo uc w9 r9 k9; obtain ⟨⟨y0, y1⟩, FF⟩ := FIN.out _ w9 r9 k9))
  all_goals
    go_wp2
    first | go_end0 | (refine bodyPost_ret (results_none rfl _ _ _) rfl ?_)
    exact ⟨⟨_, rfl⟩, _, FF.out.1, FF.out.2⟩
end Go.Proofs.Ytikcocjbbbdmgaa
