/- Rows of binds in memory; the walk of binds of package match. -/
import Derived.Test.YtbcchplcppogoaaMatchWalk
namespace Go.Proofs.Ytbcchplcppogoaa
set_option maxRecDepth 100000
set_option linter.unusedVariables false
open Go.RowKit
attribute [local go_sem ↓] Go.wp_at_zero Go.wp_at_succ
theorem info_bind : (Try.prog.info? 46).map (fun i => (i.zero, i.size, i.bytes)) = some (some (.agg #[.int .i64 0, .slice none 0 0]), 2, 32) := by kernel_rfl
def bcells (l : List (Int × Value)) : List Value := l.flatMap (fun p => [.int .i64 p.1, p.2])
theorem bcells_snoc (l : List (Int × Value)) (p : Int × Value) : bcells (l ++ [p]) = bcells l ++ [.int .i64 p.1, p.2] := by simp [bcells]
theorem bcells_length (l : List (Int × Value)) : (bcells l).length = l.length * 2 := by
  induction l with
  | nil => rfl
  | cons x r ih => simp [bcells] at ih ⊢; omega
theorem bcells_at {l : List (Int × Value)} {i : Nat} (h : i < l.length) : (bcells l)[i * 2]? = some (.int .i64 l[i].1) ∧ (bcells l)[i * 2 + 1]? = some l[i].2 := by
  induction l generalizing i with
  | nil => simp at h
  | cons x r ih =>
    have e : bcells (x :: r) = .int .i64 x.1 :: x.2 :: bcells r := by simp [bcells]
    rw [e]
    cases i with
    | zero => simp
    | succ j =>
      obtain ⟨a, b⟩ := ih (i := j) (by simpa using h)
      have e1 : (j + 1) * 2 = j * 2 + 1 + 1 := by omega
      rw [e1]
      exact ⟨by simpa using a, by simpa using b⟩
/-- append of one bind to a row of the call's own. -/
theorem wpList_bind {w0 : World} {ops : Array Oper} {rest : List Oper} {o : Oper} {a : Act} {Q : Exit → Act → World → Prop} (hgd : o.guard = none) (s x : Operand)
    (ho : o.op = .call { callee := .builtin .append, args := #[s, x], argTypes := #[26, 26] })
    (base : Nat) (l : List (Int × Value)) (v : Value) (hs : a.eval s = v) (hr : w0.ownsRow base 46 2 v l.length (bcells l)) (n : Int) (tO : Option Addr) (tl tc : Nat) (hx : a.eval x = .slice (some ⟨w0.heap.size, 0, none⟩) 1 1) (hb : base ≤ w0.heap.size) (hsz : l.length ≤ 140737488000)
    (h : ∀ g cap w', w'.ownsRow base 46 2 (.slice (some ⟨g, 0, none⟩) (l.length + 1) cap) (l.length + 1) (bcells l ++ [.int .i64 n, .slice tO tl tc]) → Kept (fun k => v.ownBlock = some k) w0 w' → (v.ownBlock = some g ∨ w0.heap.size ≤ g) → wpList Try.prog ops Q rest (a.put o.dst (.slice (some ⟨g, 0, none⟩) (l.length + 1) cap)) w') :
    wpList Try.prog ops Q (o :: rest) a (w0.alloc (.cells #[.int .i64 n, .slice tO tl tc] 46)) := by
  obtain ⟨i, hi, hz0, hz1, hz2⟩ := info_parts info_bind
  refine wpList_append_lies _ hgd s x 26 ho base 46 i _ 2 32 Try.underlying26 hi hz0 hz1 hz2 rfl (by decide) v l.length (bcells l) hs (World.ownsRow.alloc hr _) ⟨w0.heap.size, 0, none⟩ 1 1 [.int .i64 n, .slice tO tl tc] hx rfl (World.news_of_block (cs := #[.int .i64 n, .slice tO tl tc]) (t := 46) (fr := (0, 0)) (heap_alloc_new w0 _)) (by simp [Value.oneCell']) (by omega) (by unfold maxLen; omega) (by omega) (by simp; omega) (w0.heap.size + 1) (by simp) ?_
  intro g cap w' hown hgrow hat hlt
  refine h g cap w' hown ?_ (hat.imp id (fun e => by omega))
  exact Kept.grown (Kept.alloc (Kept.refl _ w0) _) hgrow (fun _ e _ => e)
/-- Binds of the call's own, each term in a block of its own. -/
structure BOwn (base : Nat) (w : World) (v : Value) (l : List (Int × Value)) (bs : List Bd) : Prop where
  row : w.ownsRow base 46 2 v l.length (bcells l)
  len : l.length = bs.length
  each : ∀ i (h : i < l.length) (h' : i < bs.length), l[i].1 = bs[i].1 ∧ Row base w l[i].2 bs[i].2 ∧ ∀ k, l[i].2.ownBlock = some k → v.ownBlock ≠ some k
  apart : ∀ i j (hi : i < l.length) (hj : j < l.length), i ≠ j → ∀ k, l[i].2.ownBlock = some k → l[j].2.ownBlock ≠ some k
theorem BOwn.nil (base : Nat) (w : World) : BOwn base w (.slice none 0 0) [] [] := ⟨World.ownsRow_nil _ _ _ _, rfl, fun i h => by simp at h, fun i j h => by simp at h⟩
theorem BOwn.kept {base : Nat} {w w' : World} {v : Value} {l : List (Int × Value)} {bs : List Bd} {S : Nat → Prop} (h : BOwn base w v l bs) (hk : Kept S w w') (hs : ∀ k, base ≤ k → k < w.heap.size → ¬ S k) : BOwn base w' v l bs :=
  ⟨hk.row h.row (fun k e => hs k (h.row.lt k e).1 (h.row.lt k e).2), h.len, fun i h1 h2 => ⟨(h.each i h1 h2).1, hk.row (h.each i h1 h2).2.1 (fun k e => hs k ((h.each i h1 h2).2.1.lt k e).1 ((h.each i h1 h2).2.1.lt k e).2), (h.each i h1 h2).2.2⟩, h.apart⟩
theorem BOwn.same {base : Nat} {w w' : World} {v : Value} {l : List (Int × Value)} {bs : List Bd} (h : BOwn base w v l bs) (hk : Same0 w w') : BOwn base w' v l bs := h.kept hk (fun _ _ _ f => f)
theorem BOwn.more {base : Nat} {wr w1 w2 : World} {lv tv : Value} {l : List (Int × Value)} {bs : List Bd} {n : Int} {xs : List Int} {g cap : Nat} (h : BOwn base wr lv l bs) (k1 : Same0 wr w1) (hb : base ≤ wr.heap.size) (ht : Row wr.heap.size w1 tv xs)
    (hr : w2.ownsRow base 46 2 (.slice (some ⟨g, 0, none⟩) (l.length + 1) cap) (l.length + 1) (bcells l ++ [.int .i64 n, tv])) (k2 : Kept (fun k => lv.ownBlock = some k) w1 w2) (hat : lv.ownBlock = some g ∨ w1.heap.size ≤ g) :
    BOwn base w2 (.slice (some ⟨g, 0, none⟩) (l.length + 1) cap) (l ++ [(n, tv)]) (bs ++ [(n, xs)]) := by
  have z1 := k1.size
  have hl := h.len
  have own : ∀ k, lv.ownBlock = some k → k < wr.heap.size := fun k e => (h.row.lt k e).2
  have tl : ∀ k, tv.ownBlock = some k → wr.heap.size ≤ k ∧ k < w1.heap.size := fun k e => ht.lt k e
  have ol : ∀ i (hi : i < l.length) k, l[i].2.ownBlock = some k → k < wr.heap.size := fun i hi k e => ((h.each i hi (by omega)).2.1.lt k e).2
  refine ⟨?_, by simp [hl], fun i h1 h2 => ?_, fun i j hi hj hij k e => ?_⟩
  · rw [bcells_snoc, List.length_append]; exact hr
  · by_cases hi : i < l.length
    · have hi' : i < bs.length := by omega
      obtain ⟨e1, e2, e3⟩ := h.each i hi hi'
      rw [List.getElem_append_left hi, List.getElem_append_left hi']
      refine ⟨e1, k2.row (k1.row e2 (fun _ _ f => f)) (fun k e => e3 k e), fun k e => ?_⟩
      simp only [Value.ownBlock, ne_eq, Option.some.injEq]
      rintro rfl
      rcases hat with y | y
      · exact e3 _ e y
      · have := ol i hi _ e; omega
    · have hi2 : i = l.length := by simp at h1; omega
      subst hi2
      have e1 : (l ++ [(n, tv)])[l.length] = (n, tv) := by simp
      have e2 : (bs ++ [(n, xs)])[l.length] = (n, xs) := by simp [hl]
      rw [e1, e2]
      refine ⟨rfl, row_mono (k2.row ht (fun k e f => by have := own k f; have := (tl k e).1; omega)) hb, fun k e => ?_⟩
      simp only [Value.ownBlock, ne_eq, Option.some.injEq]
      rintro rfl
      have := tl _ e
      rcases hat with y | y
      · have := own _ y; omega
      · omega
  · by_cases hi1 : i < l.length
    · rw [List.getElem_append_left hi1] at e
      by_cases hj1 : j < l.length
      · rw [List.getElem_append_left hj1]
        exact h.apart i j hi1 hj1 hij k e
      · have : j = l.length := by simp at hj; omega
        subst this
        have e1 : (l ++ [(n, tv)])[l.length] = (n, tv) := by simp
        rw [e1]
        intro y
        have := (tl k y).1; have := ol i hi1 k e; omega
    · have hi2 : i = l.length := by simp at hi; omega
      subst hi2
      have e1 : (l ++ [(n, tv)])[l.length] = (n, tv) := by simp
      rw [e1] at e
      have hj1 : j < l.length := by simp at hj; omega
      rw [List.getElem_append_left hj1]
      intro y
      have := (tl k e).1; have := ol j hj1 k y; omega
set_option maxHeartbeats 4000000 in
theorem binds_any {N : Nat} {w : World} {A : Nat} {σ : Tb} (h : TabAt N w A σ) (hb : Bnd σ) :
    Calls Try.prog 34 #[.pointer (some ⟨A, 0, none⟩)] w fun e w' => ∃ v l, e = .returned v ∧ BOwn w.heap.size w' v l (blN σ 100) ∧ Same0 w w' := by
  have hnil := neqnil
  go_enter Try.func34, Try.ntmps34
  go_wp2
  go_loopw [3, 8] (fun lv iv wr => ∃ (i : Nat) (l : List (Int × Value)), i ≤ 100 ∧ iv = .int .i64 (i : Int) ∧ BOwn w.heap.size wr lv l (blN σ i) ∧ Same0 w wr) (fun _ iv _ => 100 - (intOf iv).toNat)
  case atStart => exact ⟨0, [], by omega, rfl, BOwn.nil _ _, Kept.refl _ _⟩
  case round =>
    obtain ⟨i, l, hi, rfl, hB, hs⟩ := hrel
    obtain ⟨lo, lc, rfl⟩ := row_shape hB.row
    by_cases hlt : i < 100
    · obtain ⟨ao, cap, c1, c2, c3, c4, c5⟩ := (h.same hs).cell hlt
      have i1 : (0 : Int) ≤ (i : Int) := by omega
      have i2 : (i : Int) < 100 := by omega
      have d1 : wr.drew.cell? ⟨A, i, none⟩ = some (.slice ao (σ i).length cap) := c1
      by_cases hσ : σ i = []
      · obtain ⟨rfl, rfl⟩ := c5 hσ
        have HB : Hid (blN σ (i + 1) = blN σ i) := blN_no hσ
        clear c5 hσ
        go_wp2
        go_quiet (fail)
        go_wp2
        refine ⟨⟨i + 1, l, by omega, by go_num, ?_, hs.drewN _⟩, by simp [intOf]; omega⟩
        rw [HB.out]; exact hB.same ((Kept.refl _ wr).drewN _)
      · have hpos : 0 < (σ i).length := List.length_pos_iff.2 hσ
        have HB : Hid (blN σ (i + 1) = blN σ i ++ [((i : Int), σ i)]) := blN_yes hσ
        have hlen : l.length ≤ 100 := by have := hB.len; have := blN_len σ i; omega
        obtain ⟨ab, off, rfl, _, _⟩ := c3.get hpos
        have cc : Hid (∀ m, Calls Try.prog 55 #[.slice (some ⟨ab, off, none⟩) (σ i).length cap] (wr.drewN m) fun e w' => ∃ tO tc, e = .returned (.slice tO (σ i).length tc) ∧ Row wr.heap.size w' (.slice tO (σ i).length tc) (σ i) ∧ Same0 wr w') := fun m => by
          have kd : Same0 wr (wr.drewN m) := (Kept.refl _ wr).drewN m
          refine (clone_term (cap := cap) (c3.same kd) hpos (hb i)).mono ?_
          rintro e w' ⟨v, rfl, hr, hk⟩
          obtain ⟨tO, tc, rfl⟩ := row_shape hr
          exact ⟨tO, tc, rfl, hr, kd.trans' hk⟩
        have hbs := hs.size
        clear c5 hσ
        go_wp2
        go_quiet (fail)
        go_wp2_with (first | (go_at_call 55; refine (cc.out _).mono ?_; rintro e w1 ⟨tO, tc, rfl, hr1, hk1⟩; have hrow1 := hk1.row hB.row (fun _ _ f => f); have hb1 : w.heap.size ≤ w1.heap.size := Nat.le_trans hbs hk1.size) | (at_builtin; refine wpList_bind rfl _ _ rfl w.heap.size l _ rfl hrow1 (i : Int) tO (σ i).length tc rfl hb1 (by omega) ?_; intro g gcap w2 hr2 hk2 hat2))
        have hB2 := hB.more hk1 hbs hr1 hr2 hk2 hat2
        have hs2 : Same0 w w2 := (hs.trans' hk1).trans hk2 (fun k hk e => by have := (hB.row.lt k e).1; omega)
        rw [← HB.out] at hB2
        go_roundw
        case rel => first | exact ⟨i + 1, l ++ [((i : Int), .slice tO (σ i).length tc)], by omega, by go_num, hB2, hs2⟩ | ((repeat apply Exists.intro); exact ⟨⟨i + 1, l ++ [((i : Int), .slice tO (σ i).length tc)], by omega, by go_num, hB2, hs2⟩, rfl⟩)
        case measure => simp [intOf]; omega
    · obtain rfl : i = 100 := by omega
      go_wp2
      go_ret
      exact ⟨_, l, rfl, hB, hs⟩
end Go.Proofs.Ytbcchplcppogoaa
