import Derived.Test.YtppdopccipngpaaGRule05
import Derived.Laws.AppendOwnNone
import Derived.Deep.WholeRow
/- The walk of the program's Plain. -/
namespace Go.Proofs.Ytppdopccipngpaa
set_option linter.unusedVariables false
open Go.RowKit
attribute [local go_sem ↓] Go.wp_at_zero Go.wp_at_succ
theorem info_term : (Try.prog.info? 37).map (fun i => (i.zero, i.size, i.bytes)) = some (some (.slice none 0 0), 1, 24) := by kernel_rfl
/-- The new number of a variable, 0 if it has none. -/
def newN (o : List Int) (v : Nat) : Nat := if (v : Int) ∈ o then o.idxOf (v : Int) + 1 else 0
/-- Lists that lie in memory. -/
def Lists (w : World) (lo : Option Addr) (ls : List (List Int)) : Prop :=
  ls = [] ∨ ∃ b off, lo = some ⟨b, off, none⟩ ∧ b < w.heap.size ∧ ∀ i (h : i < ls.length), ∃ ao cap, w.cell? ⟨b, off + i, none⟩ = some (.slice ao ls[i].length cap) ∧ IntsAt w ao ls[i] ∧ (ao = none → ls[i].length = 0 ∧ cap = 0)
theorem Lists.same {w w' : World} {lo : Option Addr} {ls : List (List Int)} (h : Lists w lo ls) (hk : Same0 w w') : Lists w' lo ls := by
  refine h.imp id ?_
  rintro ⟨b, off, rfl, hlt, hc⟩
  refine ⟨b, off, rfl, Nat.lt_of_lt_of_le hlt hk.size, fun i hi => ?_⟩
  obtain ⟨ao, cap, c1, c2, c3⟩ := hc i hi
  exact ⟨ao, cap, (hk.cell (p := ⟨b, off + i, none⟩) hlt (fun f => f)).trans c1, c2.same hk, c3⟩
theorem Lists.get {w : World} {lo : Option Addr} {ls : List (List Int)} (h : Lists w lo ls) {i : Nat} (hi : i < ls.length) : ∃ b off ao cap, lo = some ⟨b, off, none⟩ ∧ b < w.heap.size ∧ w.cell? ⟨b, off + i, none⟩ = some (.slice ao ls[i].length cap) ∧ IntsAt w ao ls[i] ∧ (ao = none → ls[i].length = 0 ∧ cap = 0) := by
  rcases h with rfl | ⟨b, off, e, hlt, hc⟩
  · simp at hi
  · obtain ⟨ao, cap, c1, c2, c3⟩ := hc i hi
    exact ⟨b, off, ao, cap, e, hlt, c1, c2, c3⟩
/-- What Plain has made, when some lists are done. -/
structure PlAt (s : Nat) (wr : World) (g n : Nat) (cs : List Value) (done : List (List Int)) : Prop where
  row : wr.ownsRow s 37 1 (.slice (some ⟨g, 0, none⟩) n n) n cs
  len : done.length ≤ n
  each : ∀ j (h : j < done.length), ∃ v, cs[j]? = some v ∧ Row s wr v done[j] ∧ v.ownBlock ≠ some g
  apart : ∀ i j vi vj, i < done.length → j < done.length → i ≠ j → cs[i]? = some vi → cs[j]? = some vj → ∀ k, vi.ownBlock = some k → vj.ownBlock ≠ some k
theorem PlAt.kept {s : Nat} {wr w' : World} {g n : Nat} {cs : List Value} {done : List (List Int)} {S : Nat → Prop} (h : PlAt s wr g n cs done) (hk : Kept S wr w') (hn : ∀ k, s ≤ k → k < wr.heap.size → (k = g ∨ ∃ v ∈ cs, v.ownBlock = some k) → ¬ S k) : PlAt s w' g n cs done := by
  have gl := h.row.lt g rfl
  refine ⟨hk.row h.row (fun k e => ?_), h.len, fun j hj => ?_, h.apart⟩
  · have e' : k = g := by simpa [Value.ownBlock] using e.symm
    subst e'
    exact hn k gl.1 gl.2 (.inl rfl)
  · obtain ⟨v, h1, h2, h3⟩ := h.each j hj
    refine ⟨v, h1, hk.row h2 (fun k e => ?_), h3⟩
    have := h2.lt k e
    exact hn k this.1 this.2 (.inr ⟨v, List.mem_of_getElem? h1, e⟩)
theorem PlAt.same {s : Nat} {wr w' : World} {g n : Nat} {cs : List Value} {done : List (List Int)} (h : PlAt s wr g n cs done) (hk : Same0 wr w') : PlAt s w' g n cs done := h.kept hk (fun _ _ _ _ f => f)
theorem PlAt.cell {s : Nat} {wr : World} {g n : Nat} {cs : List Value} {done : List (List Int)} (h : PlAt s wr g n cs done) {j : Nat} (hj : j < n) : ∃ v, cs[j]? = some v ∧ wr.cell? ⟨g, j, none⟩ = some v ∧ wr.frozen? ⟨g, j, none⟩ = false := by
  have hl : j < cs.length := by have := h.row.1; omega
  exact ⟨cs[j], List.getElem?_eq_getElem hl, (h.row.cellAt j (by omega)).trans (List.getElem?_eq_getElem hl), h.row.frozenAt j⟩
/-- A list more. -/
theorem PlAt.add {s : Nat} {wr : World} {g n : Nat} {cs : List Value} {done : List (List Int)} (h : PlAt s wr g n cs done) {v : Value} {t : List Int} (hr : Row s wr v t) (hd : done.length < n) (hg : v.ownBlock ≠ some g) (hv : ∀ j vj, j < done.length → cs[j]? = some vj → ∀ k, v.ownBlock = some k → vj.ownBlock ≠ some k) :
    PlAt s (wr.setCell ⟨g, done.length, none⟩ v) g n (cs.set done.length v) (done ++ [t]) := by
  have hl : cs.length = n := by have := h.row.1; omega
  have ks : Kept (fun k => k = g) wr (wr.setCell ⟨g, done.length, none⟩ v) := Kept.setCell (S := fun k => k = g) (p := ⟨g, done.length, none⟩) (Kept.refl _ _) (fun _ => rfl) _
  refine ⟨(h.row.stored done.length v).1, by simp; omega, fun j hj => ?_, ?_⟩
  · by_cases e : j = done.length
    · subst e
      refine ⟨v, List.getElem?_set_self (by omega), ?_, hg⟩
      simpa using ks.row hr (fun k e e' => hg (by rw [e, e']))
    · have hj' : j < done.length := by simp at hj; omega
      obtain ⟨v', h1, h2, h3⟩ := h.each j hj'
      refine ⟨v', by rw [List.getElem?_set_ne (by omega)]; exact h1, ?_, h3⟩
      rw [List.getElem_append_left hj']
      exact ks.row h2 (fun k e e' => h3 (by rw [e, e']))
  · intro i j vi vj hi hj hij hvi hvj k hk
    simp at hi hj
    by_cases e1 : i = done.length
    · subst e1
      rw [List.getElem?_set_self (by omega)] at hvi
      cases hvi
      rw [List.getElem?_set_ne (by omega)] at hvj
      exact hv j vj (by omega) hvj k hk
    · rw [List.getElem?_set_ne (by omega)] at hvi
      by_cases e2 : j = done.length
      · subst e2
        rw [List.getElem?_set_self (by omega)] at hvj
        cases hvj
        intro e3
        exact hv i vi (by omega) hvi k e3 hk
      · rw [List.getElem?_set_ne (by omega)] at hvj
        exact h.apart i j vi vj (by omega) (by omega) hij hvi hvj k hk
/-- A number of the last list is turned. -/
theorem PlAt.put {s : Nat} {wr : World} {g n : Nat} {cs : List Value} {done : List (List Int)} {t : List Int} (h : PlAt s wr g n cs (done ++ [t])) {k : Nat} (hk : k < t.length) (x : Int) :
    ∃ r cap, cs[done.length]? = some (.slice (some ⟨r, 0, none⟩) t.length cap) ∧ r ≠ g ∧ s ≤ r ∧ r < wr.heap.size ∧ wr.cell? ⟨r, k, none⟩ = some (.int .i64 t[k]) ∧ wr.frozen? ⟨r, k, none⟩ = false ∧ PlAt s (wr.setCell ⟨r, k, none⟩ (.int .i64 x)) g n cs (done ++ [t.set k x]) := by
  have hd : done.length < (done ++ [t]).length := by simp
  obtain ⟨v, h1, h2, h3⟩ := h.each done.length hd
  have e0 : (done ++ [t])[done.length] = t := by simp
  rw [e0] at h2
  obtain ⟨r, cap, hv, hb, hlt⟩ := h2.form (by omega)
  subst hv
  have hrg : r ≠ g := fun e => h3 (by rw [e]; rfl)
  have hrow := h2
  have ks : Kept (fun k => k = r) wr (wr.setCell ⟨r, k, none⟩ (.int .i64 x)) := Kept.setCell (S := fun k => k = r) (p := ⟨r, k, none⟩) (Kept.refl _ _) (fun _ => rfl) _
  refine ⟨r, cap, h1, hrg, hb, hlt, (hrow.cellAt k (by omega)).trans (iv_get hk), hrow.frozenAt k, ⟨ks.row h.row (fun k' e e' => hrg (by simp [Value.ownBlock] at e; omega)), by have := h.len; simpa using this, fun j hj => ?_, ?_⟩⟩
  · by_cases e : j = done.length
    · subst e
      refine ⟨_, h1, ?_, h3⟩
      have := (hrow.stored k (.int .i64 x)).1
      have e1 : (done ++ [t.set k x])[done.length] = t.set k x := by simp
      rw [e1]
      unfold Row
      rw [List.length_set]
      have e2 : iv (t.set k x) = (iv t).set k (.int .i64 x) := by simp [iv, List.map_set]
      rw [e2]; exact this
    · have hj' : j < done.length := by simp at hj; omega
      obtain ⟨v', g1, g2, g3⟩ := h.each j (by simp; omega)
      refine ⟨v', g1, ?_, g3⟩
      rw [List.getElem_append_left hj'] at g2 ⊢
      refine ks.row g2 (fun k' e1 e2 => ?_)
      exact h.apart j done.length v' _ (by simp; omega) (by simp) (by omega) g1 h1 k' e1 (by simp [Value.ownBlock]; omega)
  · intro i j vi vj hi hj
    exact h.apart i j vi vj (by simpa using hi) (by simpa using hj)
/-- A list half way. -/
def curL (O t : List Int) (k : Nat) : List Int := (t.take k).map (Proofs.Ytppdopccipngpaa.pl O) ++ t.drop k
theorem curL_length (O t : List Int) (k : Nat) (hk : k ≤ t.length) : (curL O t k).length = t.length := by simp [curL]; omega
theorem curL_get {O t : List Int} {k : Nat} (hk : k < t.length) : (curL O t k)[k]'(by rw [curL_length O t k (by omega)]; exact hk) = t[k] := by
  unfold curL
  rw [List.getElem_append_right (by simp; omega)]
  simp [Nat.min_eq_left (Nat.le_of_lt hk)]
theorem take_one {α : Type} {t : List α} {k : Nat} (hk : k < t.length) : t.take (k + 1) = t.take k ++ [t[k]] := by
  rw [List.take_add_one, List.getElem?_eq_getElem hk]; rfl
theorem curL_next {O t : List Int} {k : Nat} (hk : k < t.length) : (curL O t k).set k (Proofs.Ytppdopccipngpaa.pl O t[k]) = curL O t (k + 1) := by
  have hl : ((t.take k).map (Proofs.Ytppdopccipngpaa.pl O)).length = k := by simp; omega
  unfold curL
  rw [List.set_append_right _ _ (by rw [hl]; exact Nat.le_refl _), hl, Nat.sub_self, List.drop_eq_getElem_cons hk, List.set_cons_zero, take_one hk, List.map_append, List.append_assoc]
  rfl
theorem curL_same {O t : List Int} {k : Nat} (hk : k < t.length) (hv : isV t[k] = false) : curL O t (k + 1) = curL O t k := by
  have e : Proofs.Ytppdopccipngpaa.pl O t[k] = t[k] := by simp [Proofs.Ytppdopccipngpaa.pl, hv]
  rw [← curL_next hk, e]
  apply List.ext_getElem
  · simp
  · intro i h1 h2
    rw [List.getElem_set]
    split
    · rename_i e; subst e; exact (curL_get hk).symm
    · rfl
theorem curL_zero (O t : List Int) : curL O t 0 = t := by simp [curL]
theorem curL_end (O t : List Int) : curL O t t.length = t.map (Proofs.Ytppdopccipngpaa.pl O) := by simp [curL]
/-- The variables met when i lists, and k numbers of the next, are done. -/
def metL (ls : List (List Int)) (i k : Nat) : List Int := vs (vs [] (ls.take i).flatten) ((ls.getD i []).take k)
theorem metL_zero (ls : List (List Int)) (i : Nat) : metL ls i 0 = vs [] (ls.take i).flatten := by simp [metL, vs]
theorem metL_row {ls : List (List Int)} {i : Nat} (hi : i < ls.length) : metL ls i ls[i].length = metL ls (i + 1) 0 := by
  rw [metL_zero, metL]
  have e : ls.getD i [] = ls[i] := by simp [hi]
  rw [e, List.take_length, ← vs_append, take_one hi, List.flatten_append]
  simp only [List.flatten_cons, List.flatten_nil, List.append_nil]
theorem metL_step {ls : List (List Int)} {i k : Nat} (hi : i < ls.length) (hk : k < ls[i].length) : metL ls i (k + 1) = vstep (metL ls i k) ls[i][k] := by
  have e : ls.getD i [] = ls[i] := by simp [hi]
  unfold metL
  rw [e, vs_take hk]
theorem metL_pre {ls : List (List Int)} {i k : Nat} (hi : i < ls.length) (hk : k ≤ ls[i].length) : metL ls i k <+: orderL ls := by
  have e : ls.getD i [] = ls[i] := by simp [hi]
  have e2 : ls.flatten = (ls.take i).flatten ++ (ls[i].take k ++ (ls[i].drop k ++ (ls.drop (i + 1)).flatten)) := by
    conv => lhs; rw [← List.take_append_drop i ls, List.drop_eq_getElem_cons hi]
    simp only [List.flatten_append, List.flatten_cons]
    rw [← List.append_assoc (ls[i].take k), List.take_append_drop]
  unfold orderL metL
  rw [e, e2, vs_append, vs_append]
  exact vs_sub _ _
theorem pl_new {ls : List (List Int)} {i k v : Nat} (hi : i < ls.length) (hk : k < ls[i].length) (hx : ls[i][k] = -(v : Int)) (hv : isV ls[i][k] = true) : Proofs.Ytppdopccipngpaa.pl (orderL ls) ls[i][k] = -(newN (metL ls i (k + 1)) v : Int) := by
  have hp := metL_pre hi (k := k + 1) (by omega)
  have hm : (v : Int) ∈ metL ls i (k + 1) := by
    have e : ls.getD i [] = ls[i] := by simp [hi]
    unfold metL
    rw [e]
    have := vs_mem (o := vs [] (ls.take i).flatten) (t := ls[i].take (k + 1)) (x := ls[i][k]) (by rw [take_one hk]; exact List.mem_append_right _ (List.mem_singleton.2 rfl)) hv
    rw [hx] at this
    simpa using this
  have hid := idx_prefix hp hm
  have ex : - ls[i][k] = (v : Int) := by omega
  rw [Proofs.Ytppdopccipngpaa.pl, if_pos hv, ex, hid, newN, if_pos hm]
  simp
theorem flat_le {ls : List (List Int)} {B : Nat} (h : ∀ t ∈ ls, t.length ≤ B) : ls.flatten.length ≤ ls.length * B := by
  induction ls with
  | nil => simp
  | cons t r ih =>
    have h1 := h t (by simp)
    have h2 := ih (fun x hx => h x (by simp [hx]))
    simp only [List.flatten_cons, List.length_append, List.length_cons, Nat.succ_mul]
    omega
theorem metL_le {ls : List (List Int)} (hn : ls.length ≤ 1048576) (h : ∀ t ∈ ls, t.length ≤ 1048576) {i k : Nat} (hi : i < ls.length) (hk : k ≤ ls[i].length) : (metL ls i k).length ≤ 2000000000000 := by
  have h1 := vs_len (vs [] (ls.take i).flatten) ((ls.getD i []).take k)
  have h2 := vs_len [] (ls.take i).flatten
  have h3 := flat_le (ls := ls.take i) (B := 1048576) (fun t ht => h t (List.mem_of_mem_take ht))
  have h4 : (ls.take i).length ≤ 1048576 := by simp; omega
  have h5 := h ls[i] (List.getElem_mem hi)
  have h6 : ((ls.getD i []).take k).length ≤ 1048576 := by simp; omega
  have h7 : (ls.take i).length * 1048576 ≤ 1048576 * 1048576 := Nat.mul_le_mul_right _ h4
  unfold metL
  simp only [List.length_nil, Nat.zero_add] at h2
  omega
theorem plains_length (ls : List (List Int)) : (plains ls).length = ls.length := by simp [plains]
theorem plains_get {ls : List (List Int)} {i : Nat} (hi : i < ls.length) : (plains ls).take (i + 1) = (plains ls).take i ++ [curL (orderL ls) ls[i] ls[i].length] := by
  rw [take_one (by rw [plains_length]; exact hi), curL_end]
  simp [plains]
end Go.Proofs.Ytppdopccipngpaa
/- The walks of the statements' helpers of layer 2: lent, kept, apart, places. -/
namespace Go.Proofs.Ytppdopccipngpaa
set_option linter.unusedVariables false
open Go.RowKit
attribute [local go_sem ↓] Go.wp_at_zero Go.wp_at_succ
theorem row_prefix {base g : Nat} {w : World} {xs ys : List Int} {m c : Nat} (h : Row base w (.slice (some ⟨g, 0, none⟩) m c) (xs ++ ys)) : IntsAt w (some ⟨g, 0, none⟩) xs := by
  obtain ⟨ao, cap, hv, hi, _, _⟩ := h.ints
  cases hv
  rcases hi with e | ⟨b, off, e, hlt, hc⟩
  · exact .inl (by simp at e; exact e.1)
  · cases e
    refine .inr ⟨_, _, rfl, hlt, fun i hi => ?_⟩
    have := hc i (by simp; omega)
    rwa [List.getElem_append_left hi] at this
/-- A row that is written over: nothing but its block has turned. -/
def Over (base g n : Nat) (w wr : World) : Prop := (∃ ys, wr.ownsRow base 3 1 (.slice (some ⟨g, 0, none⟩) n n) n ys) ∧ Kept (fun k => k = g) w wr
theorem Over.store {base g n : Nat} {w wr : World} (h : Over base g n w wr) (k : Nat) (u : Value) : Over base g n w (wr.setCell ⟨g, k, none⟩ u) := by
  obtain ⟨⟨ys, h1⟩, h2⟩ := h
  exact ⟨⟨_, (h1.stored k u).1⟩, h2.setCell (p := ⟨g, k, none⟩) (fun _ => rfl) u⟩
theorem Same0.after {w w5 w6 : World} {S : Nat → Prop} (h : Same0 w w5) (k : Kept S w5 w6) (hs : ∀ i, i < w.heap.size → ¬ S i) : Same0 w w6 :=
  Kept.trans h k (fun i hi e => (hs i hi e).elim)
def OverA (base : Nat) (v : Value) (B : Nat → Prop) (n : Nat) (w wr : World) : Prop := ∃ zs : List Int, zs.length = n ∧ Row base wr v zs ∧ (∀ k, v.ownBlock = some k → B k) ∧ Kept B w wr
theorem OverA.at {base : Nat} {ao : Option Addr} {cap n : Nat} {B : Nat → Prop} {w wr : World} (h : OverA base (.slice ao n cap) B n w wr) {k : Nat} (hk : k < n) : ∃ g, ao = some ⟨g, 0, none⟩ ∧ ∃ old, wr.cell? ⟨g, k, none⟩ = some old ∧ wr.frozen? ⟨g, k, none⟩ = false := by
  obtain ⟨zs, rfl, h1, _, _⟩ := h
  obtain ⟨g, cap', hv, _, _⟩ := h1.form (by omega)
  cases hv
  exact ⟨g, rfl, row_put h1 hk⟩
theorem OverA.store {base g : Nat} {cap n : Nat} {B : Nat → Prop} {w wr : World} (h : OverA base (.slice (some ⟨g, 0, none⟩) n cap) B n w wr) (k : Nat) (x : Int) : OverA base (.slice (some ⟨g, 0, none⟩) n cap) B n w (wr.setCell ⟨g, k, none⟩ (.int .i64 x)) := by
  obtain ⟨zs, rfl, h1, hB, h2⟩ := h
  refine ⟨zs.set k x, by simp, ?_, hB, h2.setCell (p := ⟨g, k, none⟩) (fun _ => hB g rfl) _⟩
  have := (h1.stored k (.int .i64 x)).1
  unfold Row
  rw [List.length_set]
  have e : iv (zs.set k x) = (iv zs).set k (.int .i64 x) := by simp [iv, List.map_set]
  rw [e]; exact this
end Go.Proofs.Ytppdopccipngpaa
/- The walks of the document's Sub and Put. -/
namespace Go.Proofs.Ytppdopccipngpaa
set_option linter.unusedVariables false
open Go.RowKit
attribute [local go_sem ↓] Go.wp_at_zero Go.wp_at_succ
/-- append of numbers that lie in memory to a row of the call's own. -/
theorem wpList_more {w0 : World} {ops : Array Oper} {rest : List Oper} {o : Oper} {a : Act} {Q : Exit → Act → World → Prop} (hgd : o.guard = none) (s x : Operand) (t : TypeId)
    (ho : o.op = .call { callee := .builtin .append, args := #[s, x], argTypes := #[t, t] }) (ht : Try.prog.underlying t = some (.slice 3))
    (base : Nat) (xs : List Int) (v : Value) (hs : a.eval s = v) (hr : Row base w0 v xs) (ys : List Int) (ad : Addr) (m c : Nat) (hx : a.eval x = .slice (some ad) m c) (hm : m = ys.length) (hy : IntsAt w0 (some ad) ys) (hb : base ≤ w0.heap.size) (hsz : (xs.length + ys.length) * 8 ≤ 140737488355328)
    (h : ∀ v' w', Row base w' v' (xs ++ ys) → Kept (fun k => v.ownBlock = some k) w0 w' → wpList Try.prog ops Q rest (a.put o.dst v') w') :
    wpList Try.prog ops Q (o :: rest) a w0 := by
  subst hm
  obtain ⟨i, hi, hz0, hz1, hz2⟩ := info_parts info_intT
  refine wpList_append_own _ hgd s x t ho base 3 i (.int .i64 0) 1 8 ht hi hz0 hz1 hz2 rfl (by decide) v xs.length (iv xs) hs hr ad ys.length c (iv ys) hx (by rw [iv_length]; omega) (fun j u hj => ?_) (iv_oneCell ys) (by unfold maxLen; omega) hsz hb ?_
  · obtain ⟨ad', e, hc⟩ := hy.src (by have := (List.getElem?_eq_some_iff.1 hj).1; omega)
    cases e
    exact hc j u hj
  · intro v' w' hown hgrow _
    refine h v' w' ?_ (Kept.grown (Kept.refl _ w0) hgrow (fun _ e _ => e))
    unfold Row; rw [iv_append, List.length_append]; exact hown
theorem row_empty (w : World) (base : Nat) (hb : base ≤ w.heap.size) {o : Obj} (ho : o = .cells #[] 3 (0, 0)) : Row base (w.alloc o) (.slice (some ⟨w.heap.size, 0, none⟩) 0 0) [] := by
  subst ho
  exact ⟨rfl, .inr ⟨w.heap.size, 0, #[], rfl, hb, heap_alloc_new w _, Nat.le_refl _, by unfold maxLen; omega, rfl, rfl⟩⟩
end Go.Proofs.Ytppdopccipngpaa
/- A table of what variables stand for, in memory; the walks of the smallest functions of package match, and of Equal and Clone of package slices. -/
namespace Go.Proofs.Ytppdopccipngpaa
set_option maxRecDepth 100000
set_option linter.unusedVariables false
open Go.RowKit
attribute [local go_sem ↓] Go.wp_at_zero Go.wp_at_succ
/-- The cells of a table: what stands there lies in blocks below N. -/
def TabV (N : Nat) (w : World) (cs : Array Value) (σ : Tb) : Prop := cs.size = 100 ∧ ∀ v, v < 100 → ∃ ao cap, cs[v]? = some (.slice ao (σ v).length cap) ∧ IntsAt w ao (σ v) ∧ (σ v).length ≤ cap ∧ (σ v = [] → ao = none ∧ cap = 0) ∧ ∀ a, ao = some a → a.block < N
theorem TabV.kept {N : Nat} {w w' : World} {cs : Array Value} {σ : Tb} {S : Nat → Prop} (h : TabV N w cs σ) (hk : Kept S w w') (hs : ∀ k, k < N → ¬ S k) : TabV N w' cs σ :=
  ⟨h.1, fun v hv => by obtain ⟨ao, cap, h1, h2, h3, h4, h5⟩ := h.2 v hv; exact ⟨ao, cap, h1, h2.kept hk (fun a e => hs _ (h5 a e)), h3, h4, h5⟩⟩
theorem TabV.same {N : Nat} {w w' : World} {cs : Array Value} {σ : Tb} (h : TabV N w cs σ) (hk : Same0 w w') : TabV N w' cs σ := h.kept hk (fun _ _ f => f)
theorem tab_zero (N : Nat) (w : World) : TabV N w (Array.replicate 100 (.slice none 0 0)) noT :=
  ⟨by simp, fun v hv => ⟨none, 0, by rw [Array.getElem?_replicate, if_pos hv]; rfl, .inl rfl, Nat.le_refl _, fun _ => ⟨rfl, rfl⟩, fun a e => by cases e⟩⟩
theorem eqnil (w : World) (a : Option Addr) (n c n' c' : Nat) : (binOp .eql 37 (.slice a n c) (.slice none n' c')).run Try.prog w = .ok (.bool a.isNone) w := Lib.run_eql_slice_nil w _ _ a n c n' c' Try.underlying37
theorem neqnil (w : World) (a : Option Addr) (n c n' c' : Nat) : (binOp .neq 37 (.slice a n c) (.slice none n' c')).run Try.prog w = .ok (.bool (!a.isNone)) w := run_neq_slice_nil_any w _ _ a n c n' c' Try.underlying37
/-! ### Equal -/
/-! ### part -/
def partL (σ : Tb) (n : Int) : List Int := if 0 ≤ n then [] else σ (-n).toNat
end Go.Proofs.Ytppdopccipngpaa
/- The walks of size, behind of package match, and of Clone of package slices. -/
namespace Go.Proofs.Ytppdopccipngpaa
set_option maxRecDepth 100000
set_option linter.unusedVariables false
open Go.RowKit
attribute [local go_sem ↓] Go.wp_at_zero Go.wp_at_succ
/-! ### size -/
/-- Each term that stands for a variable has at most so many numbers. -/
def Bnd (σ : Tb) : Prop := ∀ v, (σ v).length ≤ 2000
theorem part_len {σ : Tb} (hb : Bnd σ) (n : Int) : (partL σ n).length ≤ 2000 := by
  unfold partL
  split
  · simp
  · exact hb _
theorem inst_part (σ : Tb) (n : Int) : (inst σ n).length = max 1 (partL σ n).length := by
  rw [inst_len, partL]
  split <;> simp
theorem app_take {σ : Tb} {t : List Int} {k : Nat} (h : k < t.length) : appT σ (t.take (k + 1)) = appT σ (t.take k) ++ inst σ t[k] := by
  rw [take_one h, app_append, app_cons, app_nil, List.append_nil]
theorem app_le {σ : Tb} (hb : Bnd σ) (t : List Int) : (appT σ t).length ≤ 2000 * t.length := by
  induction t with
  | nil => simp [appT]
  | cons n t ih =>
    rw [app_cons, List.length_append, inst_part]
    have := part_len hb n
    simp only [List.length_cons]; omega
/-! ### behind -/
/-! ### Clone -/
set_option maxHeartbeats 2000000 in
theorem clone_term {w : World} {ao : Option Addr} {cap : Nat} {xs : List Int} (hx : IntsAt w ao xs) (hn : 0 < xs.length) (hsz : xs.length ≤ 2000) :
    Calls Try.prog 34 #[.slice ao xs.length cap] w fun e w' => ∃ v, e = .returned v ∧ Row w.heap.size w' v xs ∧ Same0 w w' := by
  obtain ⟨xb, off, rfl, hxb, hc⟩ := hx.get hn
  have k0 : Same0 w (w.alloc (.cells #[] 3)) := (Kept.refl _ w).alloc _
  have r0 : Row w.heap.size (w.alloc (.cells #[] 3)) (.slice (some ⟨w.heap.size, 0, none⟩) 0 0) [] := row_empty w _ (Nat.le_refl _) rfl
  have cI := hx.same k0
  have z0 := k0.size
  have hnil := eqnil
  go_enter Try.func34, Try.ntmps34
  go_wp2_with (first | (at_builtin; refine wpList_more rfl _ _ 37 rfl Try.underlying37 w.heap.size [] _ rfl r0 xs _ _ _ rfl rfl cI z0 (by simp; omega) ?_; intro v' w4 hr4 hk4))
  go_ret
  exact ⟨_, rfl, by simpa using hr4, k0.onto r0 hk4⟩
end Go.Proofs.Ytppdopccipngpaa
/- The walk of the function value with which package match goes along a term. -/
namespace Go.Proofs.Ytppdopccipngpaa
set_option maxRecDepth 100000
set_option linter.unusedVariables false
open Go.RowKit
attribute [local go_sem ↓] Go.wp_at_zero Go.wp_at_succ
theorem Kept.two {a A : Nat} {w w1 : World} (h : Kept (fun i => i = a) w w1) : Kept (fun i => i = a ∨ i = A) w w1 := h.mono (fun _ _ e => .inl e)
theorem scan_end {L : List Sym} {u : List Int} {k m : Nat} (h : scan L 1 (u.drop k) = some m) (hk : k ≤ u.length) : 0 < m ∧ k + m ≤ u.length ∧ headT L (u.drop k) = (u.take (k + m)).drop k ∧ ((u.take (k + m)).drop k).length = m := by
  have h1 := scan_pos (k := 0) h
  have h2 := (scan_need h).1
  rw [List.length_drop] at h2
  refine ⟨h1, by omega, ?_, by rw [List.length_drop, List.length_take]; omega⟩
  rw [headT, h, List.drop_take, Option.getD_some, show k + m - k = m by omega]
end Go.Proofs.Ytppdopccipngpaa
/- The walk of package match along a pattern: what its variables stand for. -/
namespace Go.Proofs.Ytppdopccipngpaa
set_option maxRecDepth 100000
set_option linter.unusedVariables false
open Go.RowKit
attribute [local go_sem ↓] Go.wp_at_zero Go.wp_at_succ
theorem Kept.setRow {S : Nat → Prop} {a w : World} (h : Kept S a w) {g : Nat} (hg : g < a.heap.size → S g) (cs : Array Value) : Kept S a (w.setRow g cs) :=
  h.trans (S' := fun k => k = g) ⟨rfl, rfl, rfl, by simp [World.setRow], fun k _ hn => by simp only [World.setRow, Array.getElem?_modify]; rw [if_neg (fun e => hn e.symm)]⟩ (fun i hi e => by subst e; exact hg hi)
theorem setRow_at {w : World} {g : Nat} {old cs : Array Value} {t : TypeId} {fr : Nat × Nat} (h : w.heap[g]? = some (.cells old t fr)) : (w.setRow g cs).heap[g]? = some (.cells cs t fr) := by
  simp [World.setRow, Array.getElem?_modify, h]
theorem run_loadCells_table {w : World} {g : Nat} {cs : Array Value} {t : TypeId} (hg : w.heap[g]? = some (.cells cs t (0, 0))) (h : cs.size = 100) : (loadCellsFrom ⟨g, 0, none⟩ 0 100 #[]).run Try.prog w = .ok cs w := by
  have := run_loadCells_list (P := Try.prog) w ⟨g, 0, none⟩ cs.toList (fun j v hv => by
    have hadd : (⟨g, 0, none⟩ : Addr).add j = ⟨g, j, none⟩ := by unfold Addr.add; split <;> simp_all
    rw [hadd, cellAt hg j]
    simpa using hv)
  simpa [loadCells, h] using this
theorem TabV.one {N : Nat} {w : World} {cs : Array Value} {σ : Tb} (h : TabV N w cs σ) : cs.all (·.oneCell') = true := by
  rw [Array.all_eq_true]
  intro i hi
  obtain ⟨ao, cap, h1, _⟩ := h.2 i (by have := h.1; omega)
  rw [Array.getElem?_eq_getElem hi] at h1
  simp only [Option.some.injEq] at h1
  rw [h1]; rfl
theorem bnd_upd {σ : Tb} (h : Bnd σ) {v : Nat} {x : List Int} (hx : x.length ≤ 2000) : Bnd (updT σ v x) := fun y => by
  unfold updT
  split
  · exact hx
  · exact h y
end Go.Proofs.Ytppdopccipngpaa
/- Rows of binds in memory; the walk of binds of package match. -/
namespace Go.Proofs.Ytppdopccipngpaa
set_option maxRecDepth 100000
set_option linter.unusedVariables false
open Go.RowKit
attribute [local go_sem ↓] Go.wp_at_zero Go.wp_at_succ
def bcells (l : List (Int × Value)) : List Value := l.flatMap (fun p => [.int .i64 p.1, p.2])
theorem bcells_snoc (l : List (Int × Value)) (p : Int × Value) : bcells (l ++ [p]) = bcells l ++ [.int .i64 p.1, p.2] := by simp [bcells]
theorem bcells_length (l : List (Int × Value)) : (bcells l).length = l.length * 2 := by
  induction l with
  | nil => rfl
  | cons x r ih => simp [bcells] at ih ⊢; omega
theorem bcells_at {l : List (Int × Value)} {i : Nat} (h : i < l.length) : (bcells l)[i * 2]? = some (.int .i64 l[i].1) ∧ (bcells l)[i * 2 + 1]? = some l[i].2 := by
  induction l generalizing i with
  | nil => simp at h
  | cons x r ih =>
    have e : bcells (x :: r) = .int .i64 x.1 :: x.2 :: bcells r := by simp [bcells]
    rw [e]
    cases i with
    | zero => simp
    | succ j =>
      obtain ⟨a, b⟩ := ih (i := j) (by simpa using h)
      have e1 : (j + 1) * 2 = j * 2 + 1 + 1 := by omega
      rw [e1]
      exact ⟨by simpa using a, by simpa using b⟩
end Go.Proofs.Ytppdopccipngpaa
/- Binds that lie in memory; the walk of tableOf of package match. -/
namespace Go.Proofs.Ytppdopccipngpaa
set_option maxRecDepth 100000
set_option linter.unusedVariables false
open Go.RowKit
attribute [local go_sem ↓] Go.wp_at_zero Go.wp_at_succ
/-- Binds that lie in memory. -/
def BindsAt (w : World) (lo : Option Addr) (bs : List Bd) : Prop :=
  bs = [] ∨ ∃ b off, lo = some ⟨b, off, none⟩ ∧ b < w.heap.size ∧ ∀ i (h : i < bs.length), w.cell? ⟨b, off + i * 2, none⟩ = some (.int .i64 bs[i].1) ∧ ∃ ao cap, w.cell? ⟨b, off + i * 2 + 1, none⟩ = some (.slice ao bs[i].2.length cap) ∧ IntsAt w ao bs[i].2 ∧ bs[i].2.length ≤ cap ∧ (ao = none → bs[i].2.length = 0 ∧ cap = 0)
theorem BindsAt.same {w w' : World} {lo : Option Addr} {bs : List Bd} (h : BindsAt w lo bs) (hk : Same0 w w') : BindsAt w' lo bs := by
  refine h.imp id ?_
  rintro ⟨b, off, rfl, hlt, hc⟩
  refine ⟨b, off, rfl, Nat.lt_of_lt_of_le hlt hk.size, fun i hi => ?_⟩
  obtain ⟨c1, ao, cap, c2, c3, c4, c5⟩ := hc i hi
  exact ⟨(hk.cell (p := ⟨b, off + i * 2, none⟩) hlt (fun f => f)).trans c1, ao, cap, (hk.cell (p := ⟨b, off + i * 2 + 1, none⟩) hlt (fun f => f)).trans c2, c3.same hk, c4, c5⟩
theorem BindsAt.get {w : World} {lo : Option Addr} {bs : List Bd} (h : BindsAt w lo bs) {i : Nat} (hi : i < bs.length) : ∃ b off ao cap, lo = some ⟨b, off, none⟩ ∧ b < w.heap.size ∧ w.cell? ⟨b, off + i * 2, none⟩ = some (.int .i64 bs[i].1) ∧ w.cell? ⟨b, off + i * 2 + 1, none⟩ = some (.slice ao bs[i].2.length cap) ∧ IntsAt w ao bs[i].2 ∧ bs[i].2.length ≤ cap ∧ (ao = none → bs[i].2.length = 0 ∧ cap = 0) := by
  rcases h with rfl | ⟨b, off, e, hlt, hc⟩
  · simp at hi
  · obtain ⟨c1, ao, cap, c2, c3, c4, c5⟩ := hc i hi
    exact ⟨b, off, ao, cap, e, hlt, c1, c2, c3, c4, c5⟩
/-- The table of some binds, or what is wrong with the first that may not be. -/
def tabF (L : List Sym) : List Bd → Tb → Except Int Tb
  | [], σ => .ok σ
  | b :: r, σ => if b.1 < 1 ∨ 99 < b.1 ∨ σ b.1.toNat ≠ [] then .error 50 else if checkE L b.2 ≠ 0 then .error (checkE L b.2) else tabF L r (updT σ b.1.toNat b.2)
theorem tab_bad {L : List Sym} {b : Bd} {r : List Bd} {σ : Tb} (h : b.1 < 1 ∨ 99 < b.1 ∨ σ b.1.toNat ≠ []) : tabF L (b :: r) σ = .error 50 := by rw [tabF, if_pos h]
theorem tab_check {L : List Sym} {b : Bd} {r : List Bd} {σ : Tb} (h : ¬ (b.1 < 1 ∨ 99 < b.1 ∨ σ b.1.toNat ≠ [])) (h2 : checkE L b.2 ≠ 0) : tabF L (b :: r) σ = .error (checkE L b.2) := by rw [tabF, if_neg h, if_pos h2]
theorem tab_go {L : List Sym} {b : Bd} {r : List Bd} {σ : Tb} (h : ¬ (b.1 < 1 ∨ 99 < b.1 ∨ σ b.1.toNat ≠ [])) (h2 : checkE L b.2 = 0) : tabF L (b :: r) σ = tabF L r (updT σ b.1.toNat b.2) := by rw [tabF, if_neg h, if_neg (by rw [h2]; simp)]
/-- Each takes one cell. -/
def OneAll (cs : Array Value) : Prop := cs.all (·.oneCell') = true
end Go.Proofs.Ytppdopccipngpaa
/- The walk of Apply of package match. -/
namespace Go.Proofs.Ytppdopccipngpaa
set_option maxRecDepth 100000
set_option linter.unusedVariables false
open Go.RowKit
attribute [local go_sem ↓] Go.wp_at_zero Go.wp_at_succ
def applyE (L : List Sym) (t : List Int) (bs : List Bd) : Int := if checkE L t ≠ 0 then checkE L t else match tabF L bs noT with | .error x => x | .ok σ => if 2000 < (appT σ t).length then 20 else 0
def applyA (L : List Sym) (t : List Int) (bs : List Bd) : List Int := if applyE L t bs = 0 then (match tabF L bs noT with | .ok σ => appT σ t | .error _ => []) else []
theorem tab_err_ne {L : List Sym} {bs : List Bd} {σ : Tb} {x : Int} (h : tabF L bs σ = .error x) : x ≠ 0 := by
  induction bs generalizing σ with
  | nil => simp [tabF] at h
  | cons b r ih =>
    rw [tabF] at h
    split at h
    · cases h; decide
    · split at h
      · cases h; assumption
      · exact ih h
theorem apply_check {L : List Sym} {t : List Int} {bs : List Bd} (h : checkE L t ≠ 0) : applyE L t bs = checkE L t ∧ applyA L t bs = [] := by
  have e : applyE L t bs = checkE L t := by rw [applyE, if_pos h]
  exact ⟨e, by rw [applyA, e, if_neg h]⟩
theorem apply_err {L : List Sym} {t : List Int} {bs : List Bd} {x : Int} (h : checkE L t = 0) (h2 : tabF L bs noT = .error x) : applyE L t bs = x ∧ applyA L t bs = [] := by
  have e : applyE L t bs = x := by rw [applyE, if_neg (by rw [h]; simp), h2]
  exact ⟨e, by rw [applyA, e, if_neg (tab_err_ne h2)]⟩
theorem apply_long {L : List Sym} {t : List Int} {bs : List Bd} {σ : Tb} (h : checkE L t = 0) (h2 : tabF L bs noT = .ok σ) (h3 : 2000 < (appT σ t).length) : applyE L t bs = 20 ∧ applyA L t bs = [] := by
  have e : applyE L t bs = 20 := by rw [applyE, if_neg (by rw [h]; simp), h2]; simp [h3]
  exact ⟨e, by rw [applyA, e, if_neg (by decide)]⟩
theorem apply_ok {L : List Sym} {t : List Int} {bs : List Bd} {σ : Tb} (h : checkE L t = 0) (h2 : tabF L bs noT = .ok σ) (h3 : ¬ 2000 < (appT σ t).length) : applyE L t bs = 0 ∧ applyA L t bs = appT σ t := by
  have e : applyE L t bs = 0 := by rw [applyE, if_neg (by rw [h]; simp), h2]; simp [h3]
  exact ⟨e, by rw [applyA, e, if_pos rfl, h2]⟩
theorem app_prefix (σ : Tb) (t : List Int) (k : Nat) : (appT σ (t.take k)).length ≤ (appT σ t).length := by
  have : appT σ t = appT σ (t.take k) ++ appT σ (t.drop k) := by rw [← app_append, List.take_append_drop]
  rw [this, List.length_append]; omega
theorem inst_none {σ : Tb} {n : Int} (h : partL σ n = []) : inst σ n = [n] := by
  unfold partL at h
  unfold inst
  by_cases h0 : 0 ≤ n
  · simp [h0]
  · rw [if_neg h0] at h; simp [h]
theorem inst_some {σ : Tb} {n : Int} (h : partL σ n ≠ []) : inst σ n = partL σ n := by
  unfold partL at h ⊢
  unfold inst
  by_cases h0 : 0 ≤ n
  · rw [if_pos h0] at h; exact absurd rfl h
  · rw [if_neg h0] at h ⊢; simp [h0, h]
end Go.Proofs.Ytppdopccipngpaa
/- The walk of Match of package match. -/
namespace Go.Proofs.Ytppdopccipngpaa
set_option maxRecDepth 100000
set_option linter.unusedVariables false
open Go.RowKit
attribute [local go_sem ↓] Go.wp_at_zero Go.wp_at_succ
def matchE (L : List Sym) (p t : List Int) (a : Int) : Int := if checkE L p ≠ 0 then checkE L p else placeE L t a
def matchS (L : List Sym) (p t : List Int) (a : Int) : Option Tb := if matchE L p t a = 0 then mw L p (subN L t a.toNat) noT else none
def matchB (L : List Sym) (p t : List Int) (a : Int) : List Bd := match matchS L p t a with | some σ => blN σ 100 | none => []
theorem match_bad {L : List Sym} {p t : List Int} {a : Int} (h : matchE L p t a ≠ 0) : matchS L p t a = none ∧ matchB L p t a = [] := by
  have h1 : matchS L p t a = none := by rw [matchS, if_neg h]
  exact ⟨h1, by rw [matchB, h1]⟩
end Go.Proofs.Ytppdopccipngpaa
/- What fits is made again, and an instance fits: in plain words; no program in sight. -/
namespace Go.Proofs.Ytppdopccipngpaa
set_option linter.unusedVariables false
/-- The variable's number of a negative one. -/
def vn (n : Int) : Nat := (-n).toNat
theorem mw_ext {L : List Sym} {p ts : List Int} {σ σ' : Tb} (he : Even L p ts) (h : mw L p ts σ = some σ') : ∀ v, σ v ≠ [] → σ' v = σ v := by
  induction p generalizing ts σ with
  | nil => simp [mw] at h; subst h; intros; rfl
  | cons n r ih =>
    obtain ⟨x, ts', rfl, h1, h2⟩ := he.cons
    intro v hv
    by_cases hn : 0 ≤ n
    · rw [mw_sym hn] at h
      by_cases e : x = n
      · rw [if_pos e] at h; exact ih (h1 hn e) h v hv
      · rw [if_neg e] at h; cases h
    · obtain ⟨m, g1, g2, g3, g4, g5, g6⟩ := h2 hn
      by_cases hs : σ (-n).toNat = []
      · rw [mw_new hn hs, g5] at h
        have hne : v ≠ (-n).toNat := fun e => hv (by rw [e]; exact hs)
        have := ih g6 h v (by rw [upd_else hne]; exact hv)
        rw [this, upd_else hne]
      · rw [mw_old hn hs, g5] at h
        split at h
        · exact ih g6 h v hv
        · cases h
theorem mw_made {L : List Sym} {p ts : List Int} {σ σ' : Tb} (he : Even L p ts) (h : mw L p ts σ = some σ') : appT σ' p = ts := by
  induction p generalizing ts σ with
  | nil => rw [he.nil]; rfl
  | cons n r ih =>
    obtain ⟨x, ts', rfl, h1, h2⟩ := he.cons
    by_cases hn : 0 ≤ n
    · rw [mw_sym hn] at h
      by_cases e : x = n
      · rw [if_pos e] at h
        rw [app_cons, ih (h1 hn e) h, inst, if_pos (.inl hn), e]; rfl
      · rw [if_neg e] at h; cases h
    · obtain ⟨m, g1, g2, g3, g4, g5, g6⟩ := h2 hn
      have hne : headT L (x :: ts') ≠ [] := fun e => by rw [e] at g5; simp at g5; omega
      have fin : σ' (-n).toNat = headT L (x :: ts') → appT σ' r = (x :: ts').drop m → appT σ' (n :: r) = x :: ts' := fun q1 q2 => by
        rw [app_cons, q2, inst, if_neg (by rw [q1]; simp [hne, hn]), q1, g4, List.take_append_drop]
      by_cases hs : σ (-n).toNat = []
      · rw [mw_new hn hs, g5] at h
        refine fin ?_ (ih g6 h)
        have := mw_ext g6 h (-n).toNat (by rw [upd_same]; exact hne)
        rw [this, upd_same]
      · rw [mw_old hn hs, g5] at h
        split at h
        · rename_i hq
          exact fin (by rw [mw_ext g6 h _ hs, hq]) (ih g6 h)
        · cases h
theorem mw_vars {L : List Sym} {p ts : List Int} {σ σ' : Tb} (he : Even L p ts) (h : mw L p ts σ = some σ') (v : Nat) : σ' v ≠ [] ↔ (σ v ≠ [] ∨ ∃ n ∈ p, n < 0 ∧ (-n).toNat = v) := by
  induction p generalizing ts σ with
  | nil => simp [mw] at h; subst h; simp
  | cons n r ih =>
    obtain ⟨x, ts', rfl, h1, h2⟩ := he.cons
    by_cases hn : 0 ≤ n
    · rw [mw_sym hn] at h
      by_cases e : x = n
      · rw [if_pos e] at h
        rw [ih (h1 hn e) h]
        constructor
        · rintro (q | ⟨y, q1, q2⟩)
          · exact .inl q
          · exact .inr ⟨y, List.mem_cons_of_mem _ q1, q2⟩
        · rintro (q | ⟨y, q1, q2, q3⟩)
          · exact .inl q
          · rcases List.mem_cons.1 q1 with q | q
            · subst q; omega
            · exact .inr ⟨y, q, q2, q3⟩
      · rw [if_neg e] at h; cases h
    · obtain ⟨m, g1, g2, g3, g4, g5, g6⟩ := h2 hn
      have hne : headT L (x :: ts') ≠ [] := fun e => by rw [e] at g5; simp at g5; omega
      have key : ∀ τ : Tb, (∀ u, τ u ≠ [] ↔ (σ u ≠ [] ∨ u = (-n).toNat)) → (σ' v ≠ [] ↔ (τ v ≠ [] ∨ ∃ n ∈ r, n < 0 ∧ (-n).toNat = v)) → (σ' v ≠ [] ↔ (σ v ≠ [] ∨ ∃ y ∈ n :: r, y < 0 ∧ (-y).toNat = v)) := fun τ q1 q2 => by
        rw [q2, q1]
        constructor
        · rintro ((q | q) | ⟨y, q3, q4⟩)
          · exact .inl q
          · exact .inr ⟨n, by simp, by omega, q.symm⟩
          · exact .inr ⟨y, List.mem_cons_of_mem _ q3, q4⟩
        · rintro (q | ⟨y, q3, q4, q5⟩)
          · exact .inl (.inl q)
          · rcases List.mem_cons.1 q3 with q | q
            · subst q; exact .inl (.inr q5.symm)
            · exact .inr ⟨y, q, q4, q5⟩
      by_cases hs : σ (-n).toNat = []
      · rw [mw_new hn hs, g5] at h
        refine key _ (fun u => ?_) (ih g6 h)
        by_cases e : u = (-n).toNat
        · subst e; rw [upd_same]; simp [hne]
        · rw [upd_else e]; simp [e]
      · rw [mw_old hn hs, g5] at h
        split at h
        · refine key σ (fun u => ?_) (ih g6 h)
          constructor
          · exact .inl
          · rintro (q | q)
            · exact q
            · rw [q]; exact hs
        · cases h
theorem sub_check {L : List Sym} {ts : List Int} {m : Nat} (hb : badE L ts = 0) (hl : ts.length ≤ 2000) (h : scan L 1 ts = some m) : checkE L (ts.take m) = 0 := by
  obtain ⟨h1, h2⟩ := scan_need h
  refine checkE_zero.2 ⟨by rw [List.length_take]; omega, ?_, h2⟩
  rw [badE_zero] at hb ⊢
  exact fun x hx => hb x (List.mem_of_mem_take hx)
theorem mw_good {L : List Sym} {p ts : List Int} {σ σ' : Tb} (he : Even L p ts) (hb : badE L ts = 0) (hl : ts.length ≤ 2000) (h : mw L p ts σ = some σ') (hσ : ∀ v, σ v ≠ [] → checkE L (σ v) = 0) : ∀ v, σ' v ≠ [] → checkE L (σ' v) = 0 := by
  induction p generalizing ts σ with
  | nil => simp [mw] at h; subst h; exact hσ
  | cons n r ih =>
    obtain ⟨x, ts', rfl, h1, h2⟩ := he.cons
    have hbd : ∀ m, badE L ((x :: ts').drop m) = 0 := fun m => by
      rw [badE_zero] at hb ⊢
      exact fun y hy => hb y (List.mem_of_mem_drop hy)
    by_cases hn : 0 ≤ n
    · rw [mw_sym hn] at h
      by_cases e : x = n
      · rw [if_pos e] at h
        exact ih (h1 hn e) (hbd 1) (by simp at hl; omega) h hσ
      · rw [if_neg e] at h; cases h
    · obtain ⟨m, g1, g2, g3, g4, g5, g6⟩ := h2 hn
      have hdl : ((x :: ts').drop m).length ≤ 2000 := by rw [List.length_drop]; omega
      by_cases hs : σ (-n).toNat = []
      · rw [mw_new hn hs, g5] at h
        refine ih g6 (hbd m) hdl h (fun v hv => ?_)
        by_cases e : v = (-n).toNat
        · subst e; rw [upd_same, g4]; exact sub_check hb hl g1
        · rw [upd_else e] at hv ⊢; exact hσ v hv
      · rw [mw_old hn hs, g5] at h
        split at h
        · exact ih g6 (hbd m) hdl h hσ
        · cases h
/-! ### the table of the binds told -/
def cutT (σ : Tb) (n : Nat) : Tb := fun v => if v < n then σ v else []
theorem tab_bl {L : List Sym} {σ : Tb} (h0 : σ 0 = []) (hg : ∀ v, σ v ≠ [] → checkE L (σ v) = 0) (n : Nat) (hn : n ≤ 100) (rest : List Bd) : tabF L (blN σ n ++ rest) noT = tabF L rest (cutT σ n) := by
  induction n generalizing rest with
  | zero => rw [blN_zero]; congr 1
  | succ n ih =>
    have hc : ∀ u, cutT σ (n + 1) u = if u = n then σ n else cutT σ n u := fun u => by
      unfold cutT
      by_cases e : u = n
      · subst e; simp
      · by_cases e2 : u < n
        · rw [if_pos (by omega), if_neg e, if_pos e2]
        · rw [if_neg (by omega), if_neg e, if_neg e2]
    by_cases hs : σ n = []
    · rw [blN_no hs, ih (by omega)]
      congr 1
      funext u
      rw [hc u]
      split
      · rename_i e; rw [e, hs]; simp [cutT]
      · rfl
    · have h1 : n ≠ 0 := fun e => hs (by rw [e]; exact h0)
      rw [blN_yes hs, List.append_assoc, ih (by omega)]
      rw [List.cons_append, List.nil_append, tab_go (by simp [cutT]; omega) (hg n hs)]
      congr 1
      funext u
      rw [hc u]
      simp [updT]
theorem bl_pair (σ : Tb) (n : Nat) : (blN σ n).Pairwise (fun a b => a.1 < b.1) := by
  induction n with
  | zero => simp [blN]
  | succ n ih =>
    by_cases hs : σ n = []
    · rw [blN_no hs]; exact ih
    · rw [blN_yes hs, List.pairwise_append]
      refine ⟨ih, by simp, fun a ha b hb => ?_⟩
      simp at hb; subst hb
      obtain ⟨y, hy, rfl, _⟩ := blN_mem ha
      simp; omega
theorem bl_rise {σ : Tb} {n i : Nat} (h : i + 1 < (blN σ n).length) : (blN σ n)[i].1 < (blN σ n)[i + 1].1 :=
  List.pairwise_iff_getElem.1 (bl_pair σ n) i (i + 1) (by omega) h (by omega)
theorem vs_from {o t : List Int} {v : Int} (h : v ∈ vs o t) : v ∈ o ∨ ∃ x ∈ t, isV x = true ∧ v = -x := by
  induction t generalizing o with
  | nil => exact .inl h
  | cons y r ih =>
    rcases ih (o := vstep o y) h with q | ⟨x, q1, q2⟩
    · unfold vstep at q
      split at q
      · rename_i hy
        rcases List.mem_append.1 q with q | q
        · exact .inl q
        · simp at q; exact .inr ⟨y, by simp, hy.1, q⟩
      · exact .inl q
    · exact .inr ⟨x, List.mem_cons_of_mem _ q1, q2⟩
theorem bl_mem_iff {σ : Tb} {n v : Nat} (hv : v < n) : ((v : Int), σ v) ∈ blN σ n ↔ σ v ≠ [] := by
  constructor
  · intro h
    obtain ⟨y, hy, e, hne⟩ := blN_mem h
    have : y = v := by have := congrArg Prod.fst e; simp at this; omega
    subst this; exact hne
  · intro h
    exact List.mem_map.2 ⟨v, by simp [h, hv], rfl⟩
/-- As many binds as variables. -/
theorem bl_count {σ : Tb} {p : List Int} (hp : ∀ x ∈ p, -99 ≤ x) (h : ∀ v, σ v ≠ [] ↔ ∃ n ∈ p, n < 0 ∧ (-n).toNat = v) : (blN σ 100).length = (varsL p).length := by
  have h1 : ((blN σ 100).map Prod.fst).Nodup := by
    rw [List.nodup_iff_pairwise_ne, List.pairwise_map]
    exact (bl_pair σ 100).imp (fun q => by omega)
  have h2 : (varsL p).Nodup := (neat_vs neat_nil p).1
  have h3 : ((blN σ 100).map Prod.fst).Perm (varsL p) := by
    rw [List.perm_ext_iff_of_nodup h1 h2]
    intro z
    constructor
    · intro hz
      obtain ⟨b, hb, rfl⟩ := List.mem_map.1 hz
      obtain ⟨v, hv, rfl, hne⟩ := blN_mem hb
      obtain ⟨n, hn, hn0, rfl⟩ := (h v).1 hne
      have := vs_mem (o := []) hn (isV_iff.2 ⟨hp n hn, by omega⟩)
      have e : (((-n).toNat : Nat) : Int) = -n := by omega
      simpa [e, varsL] using this
    · intro hz
      rcases vs_from hz with q | ⟨x, q1, q2, rfl⟩
      · simp at q
      · obtain ⟨q3, q4⟩ := isV_iff.1 q2
        have hne : σ (-x).toNat ≠ [] := (h _).2 ⟨x, q1, by omega, rfl⟩
        have := (bl_mem_iff (σ := σ) (n := 100) (v := (-x).toNat) (by omega)).2 hne
        exact List.mem_map.2 ⟨_, this, by simp; omega⟩
  have := h3.length_eq
  simpa using this
theorem fits_tab {L : List Sym} {p ts : List Int} {σ : Tb} (hp : ∀ x ∈ p, -99 ≤ x) (he : Even L p ts) (hb : badE L ts = 0) (hl : ts.length ≤ 2000) (h : mw L p ts noT = some σ) : tabF L (blN σ 100) noT = .ok σ ∧ (∀ v, σ v ≠ [] ↔ ∃ n ∈ p, n < 0 ∧ (-n).toNat = v) := by
  have hv : ∀ v, σ v ≠ [] ↔ ∃ n ∈ p, n < 0 ∧ (-n).toNat = v := fun v => by
    rw [mw_vars he h v]; simp [noT]
  have hg := mw_good he hb hl h (fun v q => by simp [noT] at q)
  have hz : ∀ v, 100 ≤ v ∨ v = 0 → σ v = [] := fun v q => Classical.byContradiction fun hne => by
    obtain ⟨n, hn, hn0, rfl⟩ := (hv v).1 hne
    have := hp n hn
    omega
  refine ⟨?_, hv⟩
  have := tab_bl (hz 0 (.inr rfl)) hg 100 (Nat.le_refl _) []
  rw [List.append_nil] at this
  rw [this]
  show Except.ok (cutT σ 100) = _
  congr 1
  funext v
  unfold cutT
  split
  · rfl
  · exact (hz v (.inl (by omega))).symm
theorem match_back {L : List Sym} {p t : List Int} {q : Nat} {σ : Tb} (h1 : checkE L p = 0) (h2 : placeE L t q = 0) (hS : matchS L p t q = some σ) :
    applyE L p (blN σ 100) = 0 ∧ applyA L p (blN σ 100) = subN L t q ∧ (blN σ 100).length = (varsL p).length := by
  obtain ⟨q', e, hq, h0, hl, hT⟩ := place_zero h2
  obtain rfl : q = q' := by omega
  obtain ⟨p1, p2, p3⟩ := checkE_zero.1 h1
  have pv : ∀ x ∈ p, -99 ≤ x := fun x hx => ((badE_zero.1 p2) x hx).2
  have hE : matchE L p t q = 0 := by simp [matchE, h1, h2]
  have hM : mw L p (subN L t q) noT = some σ := by
    rw [matchS, if_pos hE] at hS; exact hS
  have hev := even_term p3 (sub_need hT hq)
  have hlen : (subN L t q).length ≤ 2000 := by rw [sub_length hT hq]; have := endN_le hT hq; omega
  have hbad : badE L (subN L t q) = 0 := by
    have := (checkE_zero.1 h0).2.1
    rw [badE_zero] at this ⊢
    exact fun x hx => this x (List.mem_of_mem_take (List.mem_of_mem_drop hx))
  obtain ⟨f1, f2⟩ := fits_tab pv hev hbad hlen hM
  have hmade := mw_made hev hM
  obtain ⟨a1, a2⟩ := apply_ok h1 f1 (by rw [hmade]; omega)
  exact ⟨a1, by rw [a2, hmade], bl_count pv f2⟩
end Go.Proofs.Ytppdopccipngpaa
/- The walk of the document's Bound; that an instance fits, in plain words. -/
namespace Go.Proofs.Ytppdopccipngpaa
set_option maxRecDepth 100000
set_option linter.unusedVariables false
open Go.RowKit
attribute [local go_sem ↓] Go.wp_at_zero Go.wp_at_succ
theorem bound_round {bs : List Bd} {v : Int} {i : Nat} (h : boundL bs v = boundL (bs.drop i) v) (hi : i < bs.length) : boundL bs v = if bs[i].1 = v then some bs[i].2 else boundL (bs.drop (i + 1)) v := by
  rw [h, List.drop_eq_getElem_cons hi, bound_cons]
/-- No address: nothing there. -/
def NilOk (ao : Option Addr) (cap : Nat) (u : List Int) : Prop := ao = none → u.length = 0 ∧ cap = 0
theorem tab_bound {L : List Sym} {bs : List Bd} {τ σ : Tb} (h : tabF L bs τ = .ok σ) (v : Nat) : (τ v ≠ [] → σ v = τ v ∧ boundL bs (v : Int) = none) ∧ (τ v = [] → (boundL bs (v : Int) = none ∧ σ v = []) ∨ ∃ u, boundL bs (v : Int) = some u ∧ σ v = u ∧ checkE L u = 0 ∧ 1 ≤ v ∧ v ≤ 99) := by
  induction bs generalizing τ with
  | nil =>
    simp [tabF] at h; subst h
    exact ⟨fun _ => ⟨rfl, rfl⟩, fun q => .inl ⟨rfl, q⟩⟩
  | cons b r ih =>
    rw [tabF] at h
    split at h
    · cases h
    · rename_i hc
      split at h
      · cases h
      · rename_i hk
        have hk : checkE L b.2 = 0 := by simpa using hk
        have hne : b.2 ≠ [] := fun e => by
          have := isT_pos (checkE_zero.1 hk).2.2
          rw [e] at this; simp at this
        have hτ : τ b.1.toNat = [] := Classical.byContradiction fun q => hc (.inr (.inr q))
        have hlo : 1 ≤ b.1 := by omega
        have hhi : b.1 ≤ 99 := by omega
        obtain ⟨i1, i2⟩ := ih h
        rw [bound_cons]
        by_cases e : v = b.1.toNat
        · have e' : b.1 = (v : Int) := by omega
          obtain ⟨j1, j2⟩ := i1 (by rw [e, upd_same]; exact hne)
          rw [if_pos e']
          refine ⟨fun q => absurd (by rw [e]; exact hτ) q, fun _ => .inr ⟨b.2, rfl, ?_, hk, by omega, by omega⟩⟩
          rw [j1, e, upd_same]
        · have e' : ¬ b.1 = (v : Int) := by omega
          rw [if_neg e']
          rw [upd_else e] at i1 i2
          exact ⟨i1, i2⟩
theorem tab_no {L : List Sym} {bs : List Bd} {σ : Tb} (h : tabF L bs noT = .ok σ) (v : Nat) : (boundL bs (v : Int) = none ∧ σ v = []) ∨ ∃ u, boundL bs (v : Int) = some u ∧ σ v = u ∧ checkE L u = 0 ∧ 1 ≤ v ∧ v ≤ 99 := (tab_bound h v).2 rfl
theorem need_app {L : List Sym} {σ : Tb} (hg : ∀ v, σ v ≠ [] → IsT L (σ v)) (p : List Int) (k : Nat) : need L k (appT σ p) = need L k p := by
  induction p generalizing k with
  | nil => rfl
  | cons n r ih =>
    rw [app_cons]
    by_cases hn : 0 ≤ n ∨ σ (-n).toNat = []
    · rw [inst, if_pos hn]
      cases k with
      | zero => rfl
      | succ k => simp only [List.cons_append, List.nil_append, need]; exact ih _
    · rw [inst, if_neg hn]
      have hn0 : ¬ 0 ≤ n := fun q => hn (.inl q)
      have hne : σ (-n).toNat ≠ [] := fun q => hn (.inr q)
      have hT := hg _ hne
      rw [need_append]
      cases k with
      | zero =>
        cases hd : σ (-n).toNat with
        | nil => exact absurd hd hne
        | cons x y => simp [need]
      | succ k =>
        have := need_add hT k
        rw [Nat.add_comm 1 k, Nat.zero_add] at this
        rw [this, Option.bind_some, need, arN_neg hn0, Nat.add_zero]
        exact ih k
theorem app_mem {σ : Tb} {p : List Int} {x : Int} (h : x ∈ appT σ p) : x ∈ p ∨ ∃ v, σ v ≠ [] ∧ x ∈ σ v := by
  obtain ⟨n, hn, hx⟩ := List.mem_flatMap.1 h
  unfold inst at hx
  split at hx
  · simp at hx; subst hx; exact .inl hn
  · rename_i q
    exact .inr ⟨(-n).toNat, fun e => q (.inr e), hx⟩
theorem inst_mw {L : List Sym} {σ : Tb} (hg : ∀ v, σ v ≠ [] → IsT L (σ v)) {p : List Int} (hp : ∀ n ∈ p, n < 0 → σ (-n).toNat ≠ []) {τ : Tb} (hτ : ∀ v, τ v = [] ∨ τ v = σ v) : ∃ τ', mw L p (appT σ p) τ = some τ' ∧ ∀ v, τ' v = [] ∨ τ' v = σ v := by
  induction p generalizing τ with
  | nil => exact ⟨τ, rfl, hτ⟩
  | cons n r ih =>
    have hp' : ∀ n ∈ r, n < 0 → σ (-n).toNat ≠ [] := fun m hm => hp m (List.mem_cons_of_mem _ hm)
    rw [app_cons]
    by_cases hn : 0 ≤ n
    · rw [inst, if_pos (.inl hn), List.cons_append, List.nil_append, mw_sym hn, if_pos rfl]
      exact ih hp' hτ
    · have hne := hp n (by simp) (by omega)
      rw [inst, if_neg (by simp [hn, hne])]
      have hh : headT L (σ (-n).toNat ++ appT σ r) = σ (-n).toNat := by
        rw [headT, need_scan (hg _ hne)]; simp
      have hd : (σ (-n).toNat ++ appT σ r).drop (σ (-n).toNat).length = appT σ r := by simp
      by_cases hs : τ (-n).toNat = []
      · rw [mw_new hn hs, hh, hd]
        refine ih hp' (fun v => ?_)
        by_cases e : v = (-n).toNat
        · subst e; rw [upd_same]; exact .inr rfl
        · rw [upd_else e]; exact hτ v
      · rw [mw_old hn hs, hh, hd, if_pos ((hτ _).resolve_left hs)]
        exact ih hp' hτ
/-- What Apply tells may be matched against. -/
theorem inst_check {L : List Sym} {p : List Int} {bs : List Bd} {σ : Tb} (h1 : checkE L p = 0) (h2 : tabF L bs noT = .ok σ) (h3 : ¬ 2000 < (appT σ p).length) : checkE L (appT σ p) = 0 ∧ (∀ v, σ v ≠ [] → IsT L (σ v)) := by
  have hg : ∀ v, σ v ≠ [] → checkE L (σ v) = 0 := fun v hv => by
    rcases tab_no h2 v with ⟨_, q⟩ | ⟨u, _, q, hk, _⟩
    · exact absurd q hv
    · rw [q]; exact hk
  have hT : ∀ v, σ v ≠ [] → IsT L (σ v) := fun v hv => (checkE_zero.1 (hg v hv)).2.2
  obtain ⟨p1, p2, p3⟩ := checkE_zero.1 h1
  refine ⟨checkE_zero.2 ⟨by omega, ?_, ?_⟩, hT⟩
  · rw [badE_zero] at p2 ⊢
    intro x hx
    rcases app_mem hx with q | ⟨v, hv, q⟩
    · exact p2 x q
    · exact badE_zero.1 (checkE_zero.1 (hg v hv)).2.1 x q
  · show need L 1 _ = _
    rw [need_app hT]; exact p3
theorem inst_match {L : List Sym} {p : List Int} {bs : List Bd} {σ : Tb} (h1 : checkE L p = 0) (h2 : tabF L bs noT = .ok σ) (h3 : ¬ 2000 < (appT σ p).length) : matchE L p (appT σ p) 0 = 0 ∧ ((∀ v ∈ varsL p, boundL bs v ≠ none) → ∃ τ, matchS L p (appT σ p) 0 = some τ ∧ (blN τ 100).length = (varsL p).length ∧ ∀ b ∈ blN τ 100, boundL bs b.1 = some b.2 ∧ b.2.length ≤ 2000) := by
  obtain ⟨hc, hT⟩ := inst_check h1 h2 h3
  obtain ⟨p1, p2, p3⟩ := checkE_zero.1 h1
  obtain ⟨q1, q2, q3⟩ := checkE_zero.1 hc
  have hpos := isT_pos q3
  have pv : ∀ x ∈ p, -99 ≤ x := fun x hx => ((badE_zero.1 p2) x hx).2
  have hpl : placeE L (appT σ p) 0 = 0 := by
    unfold placeE
    rw [hc, if_neg (by simp), if_neg (by omega)]
  have hE : matchE L p (appT σ p) 0 = 0 := by simp [matchE, h1, hpl]
  refine ⟨hE, fun hall => ?_⟩
  have hb : ∀ n ∈ p, n < 0 → σ (-n).toNat ≠ [] := fun n hn hn0 => by
    have hv := vs_mem (o := []) hn (isV_iff.2 ⟨pv n hn, by omega⟩)
    have hnn := hall _ hv
    have e : -n = (((-n).toNat : Nat) : Int) := by omega
    rw [e] at hnn
    rcases tab_no h2 (-n).toNat with ⟨q, _⟩ | ⟨u, _, q, hk, _⟩
    · exact absurd q hnn
    · rw [q]
      intro e
      have := isT_pos (checkE_zero.1 hk).2.2
      rw [e] at this; simp at this
  have hsub : subN L (appT σ p) 0 = appT σ p := by
    rw [subN, endN_zero q3]; simp
  obtain ⟨τ, hm, ht⟩ := inst_mw hT hb (τ := noT) (fun v => .inl rfl)
  have hS : matchS L p (appT σ p) 0 = some τ := by
    rw [matchS, if_pos hE]
    show mw L p (subN L (appT σ p) 0) noT = _
    rw [hsub]; exact hm
  obtain ⟨f1, f2⟩ := fits_tab pv (even_term p3 q3) q2 q1 hm
  refine ⟨τ, hS, bl_count pv f2, fun b hb' => ?_⟩
  obtain ⟨v, hv, rfl, hne⟩ := blN_mem hb'
  have e := (ht v).resolve_left hne
  rcases tab_no h2 v with ⟨_, q⟩ | ⟨u, q1', q2', hk, _⟩
  · exact absurd (by rw [e]; exact q) hne
  · refine ⟨by rw [q1', e, q2'], ?_⟩
    simp only; rw [e, q2']; exact (checkE_zero.1 hk).1
end Go.Proofs.Ytppdopccipngpaa
