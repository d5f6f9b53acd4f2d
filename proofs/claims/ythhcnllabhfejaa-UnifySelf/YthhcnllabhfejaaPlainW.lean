/- The walk of the program's Plain. -/
import Derived.Test.YthhcnllabhfejaaVars
import Derived.Test.YthhcnllabhfejaaTermJoin
namespace Go.Proofs.Ythhcnllabhfejaa
set_option linter.unusedVariables false
open Go.RowKit
attribute [local go_sem ↓] Go.wp_at_zero Go.wp_at_succ
theorem info_term : (Try.prog.info? 25).map (fun i => (i.zero, i.size, i.bytes)) = some (some (.slice none 0 0), 1, 24) := by kernel_rfl
/-- The new number of a variable, 0 if it has none. -/
def newN (o : List Int) (v : Nat) : Nat := if (v : Int) ∈ o then o.idxOf (v : Int) + 1 else 0
/-- Lists that lie in memory. -/
def Lists (w : World) (lo : Option Addr) (ls : List (List Int)) : Prop :=
  ls = [] ∨ ∃ b off, lo = some ⟨b, off, none⟩ ∧ b < w.heap.size ∧ ∀ i (h : i < ls.length), ∃ ao cap, w.cell? ⟨b, off + i, none⟩ = some (.slice ao ls[i].length cap) ∧ IntsAt w ao ls[i] ∧ (ao = none → ls[i].length = 0 ∧ cap = 0)
theorem Lists.same {w w' : World} {lo : Option Addr} {ls : List (List Int)} (h : Lists w lo ls) (hk : Same0 w w') : Lists w' lo ls := by
  refine h.imp id ?_
  rintro ⟨b, off, rfl, hlt, hc⟩
  refine ⟨b, off, rfl, Nat.lt_of_lt_of_le hlt hk.size, fun i hi => ?_⟩
  obtain ⟨ao, cap, c1, c2, c3⟩ := hc i hi
  exact ⟨ao, cap, (hk.cell (p := ⟨b, off + i, none⟩) hlt (fun f => f)).trans c1, c2.same hk, c3⟩
theorem Lists.get {w : World} {lo : Option Addr} {ls : List (List Int)} (h : Lists w lo ls) {i : Nat} (hi : i < ls.length) : ∃ b off ao cap, lo = some ⟨b, off, none⟩ ∧ b < w.heap.size ∧ w.cell? ⟨b, off + i, none⟩ = some (.slice ao ls[i].length cap) ∧ IntsAt w ao ls[i] ∧ (ao = none → ls[i].length = 0 ∧ cap = 0) := by
  rcases h with rfl | ⟨b, off, e, hlt, hc⟩
  · simp at hi
  · obtain ⟨ao, cap, c1, c2, c3⟩ := hc i hi
    exact ⟨b, off, ao, cap, e, hlt, c1, c2, c3⟩
/-- What Plain has made, when some lists are done. -/
structure PlAt (s : Nat) (wr : World) (g n : Nat) (cs : List Value) (done : List (List Int)) : Prop where
  row : wr.ownsRow s 25 1 (.slice (some ⟨g, 0, none⟩) n n) n cs
  len : done.length ≤ n
  each : ∀ j (h : j < done.length), ∃ v, cs[j]? = some v ∧ Row s wr v done[j] ∧ v.ownBlock ≠ some g
  apart : ∀ i j vi vj, i < done.length → j < done.length → i ≠ j → cs[i]? = some vi → cs[j]? = some vj → ∀ k, vi.ownBlock = some k → vj.ownBlock ≠ some k
theorem PlAt.kept {s : Nat} {wr w' : World} {g n : Nat} {cs : List Value} {done : List (List Int)} {S : Nat → Prop} (h : PlAt s wr g n cs done) (hk : Kept S wr w') (hn : ∀ k, s ≤ k → k < wr.heap.size → (k = g ∨ ∃ v ∈ cs, v.ownBlock = some k) → ¬ S k) : PlAt s w' g n cs done := by
  have gl := h.row.lt g rfl
  refine ⟨hk.row h.row (fun k e => ?_), h.len, fun j hj => ?_, h.apart⟩
  · have e' : k = g := by simpa [Value.ownBlock] using e.symm
    subst e'
    exact hn k gl.1 gl.2 (.inl rfl)
  · obtain ⟨v, h1, h2, h3⟩ := h.each j hj
    refine ⟨v, h1, hk.row h2 (fun k e => ?_), h3⟩
    have := h2.lt k e
    exact hn k this.1 this.2 (.inr ⟨v, List.mem_of_getElem? h1, e⟩)
theorem PlAt.same {s : Nat} {wr w' : World} {g n : Nat} {cs : List Value} {done : List (List Int)} (h : PlAt s wr g n cs done) (hk : Same0 wr w') : PlAt s w' g n cs done := h.kept hk (fun _ _ _ _ f => f)
theorem PlAt.cell {s : Nat} {wr : World} {g n : Nat} {cs : List Value} {done : List (List Int)} (h : PlAt s wr g n cs done) {j : Nat} (hj : j < n) : ∃ v, cs[j]? = some v ∧ wr.cell? ⟨g, j, none⟩ = some v ∧ wr.frozen? ⟨g, j, none⟩ = false := by
  have hl : j < cs.length := by have := h.row.1; omega
  exact ⟨cs[j], List.getElem?_eq_getElem hl, (h.row.cellAt j (by omega)).trans (List.getElem?_eq_getElem hl), h.row.frozenAt j⟩
/-- A list more. -/
theorem PlAt.add {s : Nat} {wr : World} {g n : Nat} {cs : List Value} {done : List (List Int)} (h : PlAt s wr g n cs done) {v : Value} {t : List Int} (hr : Row s wr v t) (hd : done.length < n) (hg : v.ownBlock ≠ some g) (hv : ∀ j vj, j < done.length → cs[j]? = some vj → ∀ k, v.ownBlock = some k → vj.ownBlock ≠ some k) :
    PlAt s (wr.setCell ⟨g, done.length, none⟩ v) g n (cs.set done.length v) (done ++ [t]) := by
  have hl : cs.length = n := by have := h.row.1; omega
  have ks : Kept (fun k => k = g) wr (wr.setCell ⟨g, done.length, none⟩ v) := Kept.setCell (S := fun k => k = g) (p := ⟨g, done.length, none⟩) (Kept.refl _ _) (fun _ => rfl) _
  refine ⟨(h.row.stored done.length v).1, by simp; omega, fun j hj => ?_, ?_⟩
  · by_cases e : j = done.length
    · subst e
      refine ⟨v, List.getElem?_set_self (by omega), ?_, hg⟩
      simpa using ks.row hr (fun k e e' => hg (by rw [e, e']))
    · have hj' : j < done.length := by simp at hj; omega
      obtain ⟨v', h1, h2, h3⟩ := h.each j hj'
      refine ⟨v', by rw [List.getElem?_set_ne (by omega)]; exact h1, ?_, h3⟩
      rw [List.getElem_append_left hj']
      exact ks.row h2 (fun k e e' => h3 (by rw [e, e']))
  · intro i j vi vj hi hj hij hvi hvj k hk
    simp at hi hj
    by_cases e1 : i = done.length
    · subst e1
      rw [List.getElem?_set_self (by omega)] at hvi
      cases hvi
      rw [List.getElem?_set_ne (by omega)] at hvj
      exact hv j vj (by omega) hvj k hk
    · rw [List.getElem?_set_ne (by omega)] at hvi
      by_cases e2 : j = done.length
      · subst e2
        rw [List.getElem?_set_self (by omega)] at hvj
        cases hvj
        intro e3
        exact hv i vi (by omega) hvi k e3 hk
      · rw [List.getElem?_set_ne (by omega)] at hvj
        exact h.apart i j vi vj (by omega) (by omega) hij hvi hvj k hk
/-- A number of the last list is turned. -/
theorem PlAt.put {s : Nat} {wr : World} {g n : Nat} {cs : List Value} {done : List (List Int)} {t : List Int} (h : PlAt s wr g n cs (done ++ [t])) {k : Nat} (hk : k < t.length) (x : Int) :
    ∃ r cap, cs[done.length]? = some (.slice (some ⟨r, 0, none⟩) t.length cap) ∧ r ≠ g ∧ s ≤ r ∧ r < wr.heap.size ∧ wr.cell? ⟨r, k, none⟩ = some (.int .i64 t[k]) ∧ wr.frozen? ⟨r, k, none⟩ = false ∧ PlAt s (wr.setCell ⟨r, k, none⟩ (.int .i64 x)) g n cs (done ++ [t.set k x]) := by
  have hd : done.length < (done ++ [t]).length := by simp
  obtain ⟨v, h1, h2, h3⟩ := h.each done.length hd
  have e0 : (done ++ [t])[done.length] = t := by simp
  rw [e0] at h2
  obtain ⟨r, cap, hv, hb, hlt⟩ := h2.form (by omega)
  subst hv
  have hrg : r ≠ g := fun e => h3 (by rw [e]; rfl)
  have hrow := h2
  have ks : Kept (fun k => k = r) wr (wr.setCell ⟨r, k, none⟩ (.int .i64 x)) := Kept.setCell (S := fun k => k = r) (p := ⟨r, k, none⟩) (Kept.refl _ _) (fun _ => rfl) _
  refine ⟨r, cap, h1, hrg, hb, hlt, (hrow.cellAt k (by omega)).trans (iv_get hk), hrow.frozenAt k, ⟨ks.row h.row (fun k' e e' => hrg (by simp [Value.ownBlock] at e; omega)), by have := h.len; simpa using this, fun j hj => ?_, ?_⟩⟩
  · by_cases e : j = done.length
    · subst e
      refine ⟨_, h1, ?_, h3⟩
      have := (hrow.stored k (.int .i64 x)).1
      have e1 : (done ++ [t.set k x])[done.length] = t.set k x := by simp
      rw [e1]
      unfold Row
      rw [List.length_set]
      have e2 : iv (t.set k x) = (iv t).set k (.int .i64 x) := by simp [iv, List.map_set]
      rw [e2]; exact this
    · have hj' : j < done.length := by simp at hj; omega
      obtain ⟨v', g1, g2, g3⟩ := h.each j (by simp; omega)
      refine ⟨v', g1, ?_, g3⟩
      rw [List.getElem_append_left hj'] at g2 ⊢
      refine ks.row g2 (fun k' e1 e2 => ?_)
      exact h.apart j done.length v' _ (by simp; omega) (by simp) (by omega) g1 h1 k' e1 (by simp [Value.ownBlock]; omega)
  · intro i j vi vj hi hj
    exact h.apart i j vi vj (by simpa using hi) (by simpa using hj)
/-- A list half way. -/
def curL (O t : List Int) (k : Nat) : List Int := (t.take k).map (Proofs.Ythhcnllabhfejaa.pl O) ++ t.drop k
theorem curL_length (O t : List Int) (k : Nat) (hk : k ≤ t.length) : (curL O t k).length = t.length := by simp [curL]; omega
theorem curL_get {O t : List Int} {k : Nat} (hk : k < t.length) : (curL O t k)[k]'(by rw [curL_length O t k (by omega)]; exact hk) = t[k] := by
  unfold curL
  rw [List.getElem_append_right (by simp; omega)]
  simp [Nat.min_eq_left (Nat.le_of_lt hk)]
theorem take_one {α : Type} {t : List α} {k : Nat} (hk : k < t.length) : t.take (k + 1) = t.take k ++ [t[k]] := by
  rw [List.take_add_one, List.getElem?_eq_getElem hk]; rfl
theorem curL_next {O t : List Int} {k : Nat} (hk : k < t.length) : (curL O t k).set k (Proofs.Ythhcnllabhfejaa.pl O t[k]) = curL O t (k + 1) := by
  have hl : ((t.take k).map (Proofs.Ythhcnllabhfejaa.pl O)).length = k := by simp; omega
  unfold curL
  rw [List.set_append_right _ _ (by rw [hl]; exact Nat.le_refl _), hl, Nat.sub_self, List.drop_eq_getElem_cons hk, List.set_cons_zero, take_one hk, List.map_append, List.append_assoc]
  rfl
theorem curL_same {O t : List Int} {k : Nat} (hk : k < t.length) (hv : isV t[k] = false) : curL O t (k + 1) = curL O t k := by
  have e : Proofs.Ythhcnllabhfejaa.pl O t[k] = t[k] := by simp [Proofs.Ythhcnllabhfejaa.pl, hv]
  rw [← curL_next hk, e]
  apply List.ext_getElem
  · simp
  · intro i h1 h2
    rw [List.getElem_set]
    split
    · rename_i e; subst e; exact (curL_get hk).symm
    · rfl
theorem curL_zero (O t : List Int) : curL O t 0 = t := by simp [curL]
theorem curL_end (O t : List Int) : curL O t t.length = t.map (Proofs.Ythhcnllabhfejaa.pl O) := by simp [curL]
/-- The variables met when i lists, and k numbers of the next, are done. -/
def metL (ls : List (List Int)) (i k : Nat) : List Int := vs (vs [] (ls.take i).flatten) ((ls.getD i []).take k)
theorem metL_zero (ls : List (List Int)) (i : Nat) : metL ls i 0 = vs [] (ls.take i).flatten := by simp [metL, vs]
theorem metL_row {ls : List (List Int)} {i : Nat} (hi : i < ls.length) : metL ls i ls[i].length = metL ls (i + 1) 0 := by
  rw [metL_zero, metL]
  have e : ls.getD i [] = ls[i] := by simp [hi]
  rw [e, List.take_length, ← vs_append, take_one hi, List.flatten_append]
  simp only [List.flatten_cons, List.flatten_nil, List.append_nil]
theorem metL_step {ls : List (List Int)} {i k : Nat} (hi : i < ls.length) (hk : k < ls[i].length) : metL ls i (k + 1) = vstep (metL ls i k) ls[i][k] := by
  have e : ls.getD i [] = ls[i] := by simp [hi]
  unfold metL
  rw [e, vs_take hk]
theorem metL_pre {ls : List (List Int)} {i k : Nat} (hi : i < ls.length) (hk : k ≤ ls[i].length) : metL ls i k <+: orderL ls := by
  have e : ls.getD i [] = ls[i] := by simp [hi]
  have e2 : ls.flatten = (ls.take i).flatten ++ (ls[i].take k ++ (ls[i].drop k ++ (ls.drop (i + 1)).flatten)) := by
    conv => lhs; rw [← List.take_append_drop i ls, List.drop_eq_getElem_cons hi]
    simp only [List.flatten_append, List.flatten_cons]
    rw [← List.append_assoc (ls[i].take k), List.take_append_drop]
  unfold orderL metL
  rw [e, e2, vs_append, vs_append]
  exact vs_sub _ _
theorem pl_new {ls : List (List Int)} {i k v : Nat} (hi : i < ls.length) (hk : k < ls[i].length) (hx : ls[i][k] = -(v : Int)) (hv : isV ls[i][k] = true) : Proofs.Ythhcnllabhfejaa.pl (orderL ls) ls[i][k] = -(newN (metL ls i (k + 1)) v : Int) := by
  have hp := metL_pre hi (k := k + 1) (by omega)
  have hm : (v : Int) ∈ metL ls i (k + 1) := by
    have e : ls.getD i [] = ls[i] := by simp [hi]
    unfold metL
    rw [e]
    have := vs_mem (o := vs [] (ls.take i).flatten) (t := ls[i].take (k + 1)) (x := ls[i][k]) (by rw [take_one hk]; exact List.mem_append_right _ (List.mem_singleton.2 rfl)) hv
    rw [hx] at this
    simpa using this
  have hid := idx_prefix hp hm
  have ex : - ls[i][k] = (v : Int) := by omega
  rw [Proofs.Ythhcnllabhfejaa.pl, if_pos hv, ex, hid, newN, if_pos hm]
  simp
theorem flat_le {ls : List (List Int)} {B : Nat} (h : ∀ t ∈ ls, t.length ≤ B) : ls.flatten.length ≤ ls.length * B := by
  induction ls with
  | nil => simp
  | cons t r ih =>
    have h1 := h t (by simp)
    have h2 := ih (fun x hx => h x (by simp [hx]))
    simp only [List.flatten_cons, List.length_append, List.length_cons, Nat.succ_mul]
    omega
theorem metL_le {ls : List (List Int)} (hn : ls.length ≤ 1048576) (h : ∀ t ∈ ls, t.length ≤ 1048576) {i k : Nat} (hi : i < ls.length) (hk : k ≤ ls[i].length) : (metL ls i k).length ≤ 2000000000000 := by
  have h1 := vs_len (vs [] (ls.take i).flatten) ((ls.getD i []).take k)
  have h2 := vs_len [] (ls.take i).flatten
  have h3 := flat_le (ls := ls.take i) (B := 1048576) (fun t ht => h t (List.mem_of_mem_take ht))
  have h4 : (ls.take i).length ≤ 1048576 := by simp; omega
  have h5 := h ls[i] (List.getElem_mem hi)
  have h6 : ((ls.getD i []).take k).length ≤ 1048576 := by simp; omega
  have h7 : (ls.take i).length * 1048576 ≤ 1048576 * 1048576 := Nat.mul_le_mul_right _ h4
  unfold metL
  simp only [List.length_nil, Nat.zero_add] at h2
  omega
theorem plains_length (ls : List (List Int)) : (plains ls).length = ls.length := by simp [plains]
theorem plains_get {ls : List (List Int)} {i : Nat} (hi : i < ls.length) : (plains ls).take (i + 1) = (plains ls).take i ++ [curL (orderL ls) ls[i] ls[i].length] := by
  rw [take_one (by rw [plains_length]; exact hi), curL_end]
  simp [plains]
end Go.Proofs.Ythhcnllabhfejaa
