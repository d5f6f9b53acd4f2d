/- The walk of the program's Plain. -/
import Derived.Test.YtbcchplcppogoaaVars
import Derived.Test.YtbcchplcppogoaaTermJoin
namespace Go.Proofs.Ytbcchplcppogoaa
set_option linter.unusedVariables false
open Go.RowKit
attribute [local go_sem ↓] Go.wp_at_zero Go.wp_at_succ
theorem zeros_int : Try.zeroCells95 = Array.replicate 100 (.int .i64 0) := by kernel_rfl
theorem info_term : (Try.prog.info? 25).map (fun i => (i.zero, i.size, i.bytes)) = some (some (.slice none 0 0), 1, 24) := by kernel_rfl
/-- The new number of a variable, 0 if it has none. -/
def newN (o : List Int) (v : Nat) : Nat := if (v : Int) ∈ o then o.idxOf (v : Int) + 1 else 0
def AnewAt (w : World) (A : Nat) (o : List Int) : Prop := ∃ cs, w.heap[A]? = some (.cells cs 95 (0, 0)) ∧ cs.size = 100 ∧ ∀ v : Nat, 1 ≤ v → v ≤ 99 → cs[v]? = some (.int .i64 (newN o v : Int))
theorem anew_new (w : World) : AnewAt (w.alloc (.cells Try.zeroCells95 95)) w.heap.size [] := by
  refine ⟨_, heap_alloc_new w _, by rw [zeros_int]; simp, fun v h1 h2 => ?_⟩
  rw [zeros_int, Array.getElem?_replicate, if_pos (by omega)]
  simp [newN]
theorem AnewAt.kept {w w' : World} {A : Nat} {o : List Int} {S : Nat → Prop} (h : AnewAt w A o) (hk : Kept S w w') (hn : ¬ S A) : AnewAt w' A o := by
  obtain ⟨cs, h1, h2⟩ := h
  exact ⟨cs, hk.at h1 hn, h2⟩
theorem AnewAt.cell {w : World} {A : Nat} {o : List Int} (h : AnewAt w A o) {v : Nat} (h1 : 1 ≤ v) (h2 : v ≤ 99) : w.cell? ⟨A, v, none⟩ = some (.int .i64 (newN o v : Int)) ∧ w.frozen? ⟨A, v, none⟩ = false := by
  obtain ⟨cs, q1, q2, q3⟩ := h
  exact ⟨(cellAt q1 v).trans (q3 v h1 h2), frozenAt q1 v⟩
theorem AnewAt.set {w : World} {A : Nat} {o : List Int} (h : AnewAt w A o) {v : Nat} (h1 : 1 ≤ v) (h2 : v ≤ 99) (hn : ¬ (v : Int) ∈ o) : AnewAt (w.setCell ⟨A, v, none⟩ (.int .i64 ((o.length : Int) + 1))) A (o ++ [(v : Int)]) := by
  obtain ⟨cs, q1, q2, q3⟩ := h
  refine ⟨_, setAt q1 v _, by simpa using q2, fun u g1 g2 => ?_⟩
  rw [Array.getElem?_setIfInBounds]
  by_cases e : v = u
  · subst e
    rw [if_pos rfl, if_pos (by omega)]
    have : (o ++ [(v : Int)]).idxOf (v : Int) = o.length := by rw [List.idxOf_append, if_neg hn]; simp
    simp [newN, this]
  · rw [if_neg e, q3 u g1 g2]
    congr 2
    have hne : ¬ (u : Int) = (v : Int) := by omega
    by_cases hu : (u : Int) ∈ o
    · simp [newN, hu, List.idxOf_append]
    · simp [newN, hu, hne]
/-- Lists that lie in memory. -/
def Lists (w : World) (lo : Option Addr) (ls : List (List Int)) : Prop :=
  ls = [] ∨ ∃ b off, lo = some ⟨b, off, none⟩ ∧ b < w.heap.size ∧ ∀ i (h : i < ls.length), ∃ ao cap, w.cell? ⟨b, off + i, none⟩ = some (.slice ao ls[i].length cap) ∧ IntsAt w ao ls[i] ∧ (ao = none → ls[i].length = 0 ∧ cap = 0)
theorem Lists.same {w w' : World} {lo : Option Addr} {ls : List (List Int)} (h : Lists w lo ls) (hk : Same0 w w') : Lists w' lo ls := by
  refine h.imp id ?_
  rintro ⟨b, off, rfl, hlt, hc⟩
  refine ⟨b, off, rfl, Nat.lt_of_lt_of_le hlt hk.size, fun i hi => ?_⟩
  obtain ⟨ao, cap, c1, c2, c3⟩ := hc i hi
  exact ⟨ao, cap, (hk.cell (p := ⟨b, off + i, none⟩) hlt (fun f => f)).trans c1, c2.same hk, c3⟩
theorem Lists.get {w : World} {lo : Option Addr} {ls : List (List Int)} (h : Lists w lo ls) {i : Nat} (hi : i < ls.length) : ∃ b off ao cap, lo = some ⟨b, off, none⟩ ∧ b < w.heap.size ∧ w.cell? ⟨b, off + i, none⟩ = some (.slice ao ls[i].length cap) ∧ IntsAt w ao ls[i] ∧ (ao = none → ls[i].length = 0 ∧ cap = 0) := by
  rcases h with rfl | ⟨b, off, e, hlt, hc⟩
  · simp at hi
  · obtain ⟨ao, cap, c1, c2, c3⟩ := hc i hi
    exact ⟨b, off, ao, cap, e, hlt, c1, c2, c3⟩
/-- What Plain has made, when some lists are done. -/
structure PlAt (s : Nat) (wr : World) (g n : Nat) (cs : List Value) (done : List (List Int)) : Prop where
  row : wr.ownsRow s 25 1 (.slice (some ⟨g, 0, none⟩) n n) n cs
  len : done.length ≤ n
  each : ∀ j (h : j < done.length), ∃ v, cs[j]? = some v ∧ Row s wr v done[j] ∧ v.ownBlock ≠ some g
  apart : ∀ i j vi vj, i < done.length → j < done.length → i ≠ j → cs[i]? = some vi → cs[j]? = some vj → ∀ k, vi.ownBlock = some k → vj.ownBlock ≠ some k
theorem PlAt.kept {s : Nat} {wr w' : World} {g n : Nat} {cs : List Value} {done : List (List Int)} {S : Nat → Prop} (h : PlAt s wr g n cs done) (hk : Kept S wr w') (hn : ∀ k, s ≤ k → k < wr.heap.size → (k = g ∨ ∃ v ∈ cs, v.ownBlock = some k) → ¬ S k) : PlAt s w' g n cs done := by
  have gl := h.row.lt g rfl
  refine ⟨hk.row h.row (fun k e => ?_), h.len, fun j hj => ?_, h.apart⟩
  · have e' : k = g := by simpa [Value.ownBlock] using e.symm
    subst e'
    exact hn k gl.1 gl.2 (.inl rfl)
  · obtain ⟨v, h1, h2, h3⟩ := h.each j hj
    refine ⟨v, h1, hk.row h2 (fun k e => ?_), h3⟩
    have := h2.lt k e
    exact hn k this.1 this.2 (.inr ⟨v, List.mem_of_getElem? h1, e⟩)
theorem PlAt.same {s : Nat} {wr w' : World} {g n : Nat} {cs : List Value} {done : List (List Int)} (h : PlAt s wr g n cs done) (hk : Same0 wr w') : PlAt s w' g n cs done := h.kept hk (fun _ _ _ _ f => f)
theorem PlAt.cell {s : Nat} {wr : World} {g n : Nat} {cs : List Value} {done : List (List Int)} (h : PlAt s wr g n cs done) {j : Nat} (hj : j < n) : ∃ v, cs[j]? = some v ∧ wr.cell? ⟨g, j, none⟩ = some v ∧ wr.frozen? ⟨g, j, none⟩ = false := by
  have hl : j < cs.length := by have := h.row.1; omega
  exact ⟨cs[j], List.getElem?_eq_getElem hl, (h.row.cellAt j (by omega)).trans (List.getElem?_eq_getElem hl), h.row.frozenAt j⟩
/-- A list more. -/
theorem PlAt.add {s : Nat} {wr : World} {g n : Nat} {cs : List Value} {done : List (List Int)} (h : PlAt s wr g n cs done) {v : Value} {t : List Int} (hr : Row s wr v t) (hd : done.length < n) (hg : v.ownBlock ≠ some g) (hv : ∀ j vj, j < done.length → cs[j]? = some vj → ∀ k, v.ownBlock = some k → vj.ownBlock ≠ some k) :
    PlAt s (wr.setCell ⟨g, done.length, none⟩ v) g n (cs.set done.length v) (done ++ [t]) := by
  have hl : cs.length = n := by have := h.row.1; omega
  have ks : Kept (fun k => k = g) wr (wr.setCell ⟨g, done.length, none⟩ v) := Kept.setCell (S := fun k => k = g) (p := ⟨g, done.length, none⟩) (Kept.refl _ _) (fun _ => rfl) _
  refine ⟨(h.row.stored done.length v).1, by simp; omega, fun j hj => ?_, ?_⟩
  · by_cases e : j = done.length
    · subst e
      refine ⟨v, List.getElem?_set_self (by omega), ?_, hg⟩
      simpa using ks.row hr (fun k e e' => hg (by rw [e, e']))
    · have hj' : j < done.length := by simp at hj; omega
      obtain ⟨v', h1, h2, h3⟩ := h.each j hj'
      refine ⟨v', by rw [List.getElem?_set_ne (by omega)]; exact h1, ?_, h3⟩
      rw [List.getElem_append_left hj']
      exact ks.row h2 (fun k e e' => h3 (by rw [e, e']))
  · intro i j vi vj hi hj hij hvi hvj k hk
    simp at hi hj
    by_cases e1 : i = done.length
    · subst e1
      rw [List.getElem?_set_self (by omega)] at hvi
      cases hvi
      rw [List.getElem?_set_ne (by omega)] at hvj
      exact hv j vj (by omega) hvj k hk
    · rw [List.getElem?_set_ne (by omega)] at hvi
      by_cases e2 : j = done.length
      · subst e2
        rw [List.getElem?_set_self (by omega)] at hvj
        cases hvj
        intro e3
        exact hv i vi (by omega) hvi k e3 hk
      · rw [List.getElem?_set_ne (by omega)] at hvj
        exact h.apart i j vi vj (by omega) (by omega) hij hvi hvj k hk
/-- A number of the last list is turned. -/
theorem PlAt.put {s : Nat} {wr : World} {g n : Nat} {cs : List Value} {done : List (List Int)} {t : List Int} (h : PlAt s wr g n cs (done ++ [t])) {k : Nat} (hk : k < t.length) (x : Int) :
    ∃ r cap, cs[done.length]? = some (.slice (some ⟨r, 0, none⟩) t.length cap) ∧ r ≠ g ∧ s ≤ r ∧ r < wr.heap.size ∧ wr.cell? ⟨r, k, none⟩ = some (.int .i64 t[k]) ∧ wr.frozen? ⟨r, k, none⟩ = false ∧ PlAt s (wr.setCell ⟨r, k, none⟩ (.int .i64 x)) g n cs (done ++ [t.set k x]) := by
  have hd : done.length < (done ++ [t]).length := by simp
  obtain ⟨v, h1, h2, h3⟩ := h.each done.length hd
  have e0 : (done ++ [t])[done.length] = t := by simp
  rw [e0] at h2
  obtain ⟨r, cap, hv, hb, hlt⟩ := h2.form (by omega)
  subst hv
  have hrg : r ≠ g := fun e => h3 (by rw [e]; rfl)
  have hrow := h2
  have ks : Kept (fun k => k = r) wr (wr.setCell ⟨r, k, none⟩ (.int .i64 x)) := Kept.setCell (S := fun k => k = r) (p := ⟨r, k, none⟩) (Kept.refl _ _) (fun _ => rfl) _
  refine ⟨r, cap, h1, hrg, hb, hlt, (hrow.cellAt k (by omega)).trans (iv_get hk), hrow.frozenAt k, ⟨ks.row h.row (fun k' e e' => hrg (by simp [Value.ownBlock] at e; omega)), by have := h.len; simpa using this, fun j hj => ?_, ?_⟩⟩
  · by_cases e : j = done.length
    · subst e
      refine ⟨_, h1, ?_, h3⟩
      have := (hrow.stored k (.int .i64 x)).1
      have e1 : (done ++ [t.set k x])[done.length] = t.set k x := by simp
      rw [e1]
      unfold Row
      rw [List.length_set]
      have e2 : iv (t.set k x) = (iv t).set k (.int .i64 x) := by simp [iv, List.map_set]
      rw [e2]; exact this
    · have hj' : j < done.length := by simp at hj; omega
      obtain ⟨v', g1, g2, g3⟩ := h.each j (by simp; omega)
      refine ⟨v', g1, ?_, g3⟩
      rw [List.getElem_append_left hj'] at g2 ⊢
      refine ks.row g2 (fun k' e1 e2 => ?_)
      exact h.apart j done.length v' _ (by simp; omega) (by simp) (by omega) g1 h1 k' e1 (by simp [Value.ownBlock]; omega)
  · intro i j vi vj hi hj
    exact h.apart i j vi vj (by simpa using hi) (by simpa using hj)
/-- All that Plain holds. -/
structure PW (w wr : World) (n : Nat) (cs : List Value) (done : List (List Int)) (o : List Int) : Prop where
  pl : PlAt w.heap.size wr (w.heap.size + 1) n cs done
  an : AnewAt wr w.heap.size o
  na : ∀ v ∈ cs, v.ownBlock ≠ some w.heap.size
  s : Same0 w wr
theorem PW.same {w wr wr' : World} {n : Nat} {cs : List Value} {done : List (List Int)} {o : List Int} (h : PW w wr n cs done o) (k : Same0 wr wr') : PW w wr' n cs done o :=
  ⟨h.pl.same k, h.an.kept k (fun f => f), h.na, h.s.trans' k⟩
theorem PW.anew {w wr : World} {n : Nat} {cs : List Value} {done : List (List Int)} {o : List Int} (h : PW w wr n cs done o) {v : Nat} (h1 : 1 ≤ v) (h2 : v ≤ 99) (hn : ¬ (v : Int) ∈ o) : PW w (wr.setCell ⟨w.heap.size, v, none⟩ (.int .i64 ((o.length : Int) + 1))) n cs done (o ++ [(v : Int)]) := by
  have ks : Kept (fun k => k = w.heap.size) wr (wr.setCell ⟨w.heap.size, v, none⟩ (.int .i64 ((o.length : Int) + 1))) := Kept.setCell (S := fun k => k = w.heap.size) (p := ⟨w.heap.size, v, none⟩) (Kept.refl _ _) (fun _ => rfl) _
  refine ⟨h.pl.kept ks ?_, h.an.set h1 h2 hn, h.na, h.s.own (Nat.le_refl _) _⟩
  rintro k _ _ (e | ⟨u, hu, e⟩) e'
  · omega
  · exact h.na u hu (by rw [e, e'])
theorem PW.add {w wr w2 : World} {n : Nat} {cs : List Value} {done : List (List Int)} {o : List Int} (h : PW w wr n cs done o) {v : Value} {t : List Int} (hk : Same0 wr w2) (hr : Row wr.heap.size w2 v t) (hd : done.length < n) : PW w (w2.setCell ⟨w.heap.size + 1, done.length, none⟩ v) n (cs.set done.length v) (done ++ [t]) o := by
  have h2 := h.same hk
  have gl := h.pl.row.lt (w.heap.size + 1) rfl
  have hv : ∀ k, v.ownBlock = some k → wr.heap.size ≤ k := fun k e => (hr.lt k e).1
  have sz := h.s.size
  have ks : Kept (fun k => k = w.heap.size + 1) w2 (w2.setCell ⟨w.heap.size + 1, done.length, none⟩ v) := Kept.setCell (S := fun k => k = w.heap.size + 1) (p := ⟨w.heap.size + 1, done.length, none⟩) (Kept.refl _ _) (fun _ => rfl) _
  refine ⟨h2.pl.add (row_mono hr sz) hd (fun e => by have := hv _ e; omega) ?_, h2.an.kept ks (by omega), ?_, h2.s.own (by omega) _⟩
  · intro j vj hj hc k e e'
    obtain ⟨v', g1, g2, _⟩ := h.pl.each j hj
    rw [hc] at g1
    cases g1
    have := (g2.lt k e').2
    have := hv k e
    omega
  · intro u hu
    rcases List.mem_or_eq_of_mem_set hu with hu | hu
    · exact h.na u hu
    · subst hu; intro e; have := hv _ e; omega
theorem PW.put {w wr : World} {n : Nat} {cs : List Value} {done : List (List Int)} {t o : List Int} (h : PW w wr n cs (done ++ [t]) o) {k : Nat} (hk : k < t.length) (x : Int) :
    ∃ r cap, wr.cell? ⟨w.heap.size + 1, done.length, none⟩ = some (.slice (some ⟨r, 0, none⟩) t.length cap) ∧ wr.frozen? ⟨r, k, none⟩ = false ∧ (∃ old, wr.cell? ⟨r, k, none⟩ = some old) ∧ PW w (wr.setCell ⟨r, k, none⟩ (.int .i64 x)) n cs (done ++ [t.set k x]) o := by
  obtain ⟨r, cap, h1, h2, h3, h4, h5, h6, h7⟩ := h.pl.put hk x
  obtain ⟨v, g1, g2, _⟩ := h.pl.cell (j := done.length) (by have := h.pl.len; simp at this; omega)
  rw [h1] at g1
  cases g1
  have hra : r ≠ w.heap.size := fun e => h.na _ (List.mem_of_getElem? h1) (by rw [e]; rfl)
  have ks : Kept (fun k => k = r) wr (wr.setCell ⟨r, k, none⟩ (.int .i64 x)) := Kept.setCell (S := fun k => k = r) (p := ⟨r, k, none⟩) (Kept.refl _ _) (fun _ => rfl) _
  exact ⟨r, cap, g2, h6, ⟨_, h5⟩, h7, h.an.kept ks (fun e => hra e.symm), h.na, h.s.own h3 _⟩
/-- A list half way. -/
def curL (O t : List Int) (k : Nat) : List Int := (t.take k).map (Proofs.Ytbcchplcppogoaa.pl O) ++ t.drop k
theorem curL_length (O t : List Int) (k : Nat) (hk : k ≤ t.length) : (curL O t k).length = t.length := by simp [curL]; omega
theorem curL_get {O t : List Int} {k : Nat} (hk : k < t.length) : (curL O t k)[k]'(by rw [curL_length O t k (by omega)]; exact hk) = t[k] := by
  unfold curL
  rw [List.getElem_append_right (by simp; omega)]
  simp [Nat.min_eq_left (Nat.le_of_lt hk)]
theorem take_one {α : Type} {t : List α} {k : Nat} (hk : k < t.length) : t.take (k + 1) = t.take k ++ [t[k]] := by
  rw [List.take_add_one, List.getElem?_eq_getElem hk]; rfl
theorem curL_next {O t : List Int} {k : Nat} (hk : k < t.length) : (curL O t k).set k (Proofs.Ytbcchplcppogoaa.pl O t[k]) = curL O t (k + 1) := by
  have hl : ((t.take k).map (Proofs.Ytbcchplcppogoaa.pl O)).length = k := by simp; omega
  unfold curL
  rw [List.set_append_right _ _ (by rw [hl]; exact Nat.le_refl _), hl, Nat.sub_self, List.drop_eq_getElem_cons hk, List.set_cons_zero, take_one hk, List.map_append, List.append_assoc]
  rfl
theorem curL_same {O t : List Int} {k : Nat} (hk : k < t.length) (hv : isV t[k] = false) : curL O t (k + 1) = curL O t k := by
  have e : Proofs.Ytbcchplcppogoaa.pl O t[k] = t[k] := by simp [Proofs.Ytbcchplcppogoaa.pl, hv]
  rw [← curL_next hk, e]
  apply List.ext_getElem
  · simp
  · intro i h1 h2
    rw [List.getElem_set]
    split
    · rename_i e; subst e; exact (curL_get hk).symm
    · rfl
theorem curL_zero (O t : List Int) : curL O t 0 = t := by simp [curL]
theorem curL_end (O t : List Int) : curL O t t.length = t.map (Proofs.Ytbcchplcppogoaa.pl O) := by simp [curL]
/-- The variables met when i lists, and k numbers of the next, are done. -/
def metL (ls : List (List Int)) (i k : Nat) : List Int := vs (vs [] (ls.take i).flatten) ((ls.getD i []).take k)
theorem metL_zero (ls : List (List Int)) (i : Nat) : metL ls i 0 = vs [] (ls.take i).flatten := by simp [metL, vs]
theorem metL_row {ls : List (List Int)} {i : Nat} (hi : i < ls.length) : metL ls i ls[i].length = metL ls (i + 1) 0 := by
  rw [metL_zero, metL]
  have e : ls.getD i [] = ls[i] := by simp [hi]
  rw [e, List.take_length, ← vs_append, take_one hi, List.flatten_append]
  simp only [List.flatten_cons, List.flatten_nil, List.append_nil]
theorem metL_step {ls : List (List Int)} {i k : Nat} (hi : i < ls.length) (hk : k < ls[i].length) : metL ls i (k + 1) = vstep (metL ls i k) ls[i][k] := by
  have e : ls.getD i [] = ls[i] := by simp [hi]
  unfold metL
  rw [e, vs_take hk]
theorem metL_pre {ls : List (List Int)} {i k : Nat} (hi : i < ls.length) (hk : k ≤ ls[i].length) : metL ls i k <+: orderL ls := by
  have e : ls.getD i [] = ls[i] := by simp [hi]
  have e2 : ls.flatten = (ls.take i).flatten ++ (ls[i].take k ++ (ls[i].drop k ++ (ls.drop (i + 1)).flatten)) := by
    conv => lhs; rw [← List.take_append_drop i ls, List.drop_eq_getElem_cons hi]
    simp only [List.flatten_append, List.flatten_cons]
    rw [← List.append_assoc (ls[i].take k), List.take_append_drop]
  unfold orderL metL
  rw [e, e2, vs_append, vs_append]
  exact vs_sub _ _
theorem pl_new {ls : List (List Int)} {i k v : Nat} (hi : i < ls.length) (hk : k < ls[i].length) (hx : ls[i][k] = -(v : Int)) (hv : isV ls[i][k] = true) : Proofs.Ytbcchplcppogoaa.pl (orderL ls) ls[i][k] = -(newN (metL ls i (k + 1)) v : Int) := by
  have hp := metL_pre hi (k := k + 1) (by omega)
  have hm : (v : Int) ∈ metL ls i (k + 1) := by
    have e : ls.getD i [] = ls[i] := by simp [hi]
    unfold metL
    rw [e]
    have := vs_mem (o := vs [] (ls.take i).flatten) (t := ls[i].take (k + 1)) (x := ls[i][k]) (by rw [take_one hk]; exact List.mem_append_right _ (List.mem_singleton.2 rfl)) hv
    rw [hx] at this
    simpa using this
  have hid := idx_prefix hp hm
  have ex : - ls[i][k] = (v : Int) := by omega
  rw [Proofs.Ytbcchplcppogoaa.pl, if_pos hv, ex, hid, newN, if_pos hm]
  simp
theorem flat_le {ls : List (List Int)} {B : Nat} (h : ∀ t ∈ ls, t.length ≤ B) : ls.flatten.length ≤ ls.length * B := by
  induction ls with
  | nil => simp
  | cons t r ih =>
    have h1 := h t (by simp)
    have h2 := ih (fun x hx => h x (by simp [hx]))
    simp only [List.flatten_cons, List.length_append, List.length_cons, Nat.succ_mul]
    omega
theorem metL_le {ls : List (List Int)} (hn : ls.length ≤ 1048576) (h : ∀ t ∈ ls, t.length ≤ 1048576) {i k : Nat} (hi : i < ls.length) (hk : k ≤ ls[i].length) : (metL ls i k).length ≤ 2000000000000 := by
  have h1 := vs_len (vs [] (ls.take i).flatten) ((ls.getD i []).take k)
  have h2 := vs_len [] (ls.take i).flatten
  have h3 := flat_le (ls := ls.take i) (B := 1048576) (fun t ht => h t (List.mem_of_mem_take ht))
  have h4 : (ls.take i).length ≤ 1048576 := by simp; omega
  have h5 := h ls[i] (List.getElem_mem hi)
  have h6 : ((ls.getD i []).take k).length ≤ 1048576 := by simp; omega
  have h7 : (ls.take i).length * 1048576 ≤ 1048576 * 1048576 := Nat.mul_le_mul_right _ h4
  unfold metL
  simp only [List.length_nil, Nat.zero_add] at h2
  omega
theorem plains_length (ls : List (List Int)) : (plains ls).length = ls.length := by simp [plains]
theorem plains_get {ls : List (List Int)} {i : Nat} (hi : i < ls.length) : (plains ls).take (i + 1) = (plains ls).take i ++ [curL (orderL ls) ls[i] ls[i].length] := by
  rw [take_one (by rw [plains_length]; exact hi), curL_end]
  simp [plains]
set_option maxRecDepth 8000 in
set_option maxHeartbeats 8000000 in
theorem tplain_any {w : World} {lo : Option Addr} {lcap : Nat} {ls : List (List Int)} (hl : Lists w lo ls) (hn : ls.length ≤ 1048576) (hb : ∀ t ∈ ls, t.length ≤ 1048576) :
    Calls Try.prog 41 #[.slice lo ls.length lcap] w fun e w' => ∃ g cs, e = .returned (.slice (some ⟨g, 0, none⟩) ls.length ls.length) ∧ PlAt w.heap.size w' g ls.length cs (plains ls) ∧ Same0 w w' := by
  obtain ⟨i0, hi0, hz0, hz1, hz2⟩ := info_parts info_term
  have A0 := anew_new w
  have K0 : Same0 w (w.alloc (.cells Try.zeroCells95 95)) := (Kept.refl _ w).alloc _
  have HB : Hid (∀ t ∈ ls, t.length ≤ 1048576) := hb
  clear hb
  go_enter Try.func41, Try.ntmps41
  go_wp2_with (first | (at_make; refine wpList_make_full _ rfl _ _ 77 rfl w.heap.size 25 i0 _ 1 Try.underlying77 hi0 hz0 hz1 _ _ _ _ ls.length rfl rfl rfl rfl (by rw [hz2]; omega) (by unfold maxLen; omega) K0.size ?_; intro w3 hown hgrow))
  have eg : (w.alloc (.cells Try.zeroCells95 95)).heap.size = w.heap.size + 1 := by simp
  have P0 : PW w w3 ls.length (madeCells (Value.slice none 0 0).cells (ls.length * 1)).toList ((plains ls).take 0) (metL ls 0 0) := by
    have k3 := Same0.grown (Kept.refl _ _) hgrow
    rw [eg] at hown
    refine ⟨⟨hown, by simp, fun j hj => by simp at hj, fun i j vi vj hi => by simp at hi⟩, ?_, ?_, K0.trans' k3⟩
    · rw [metL_zero]; exact A0.kept k3 (fun f => f)
    · intro v hv
      have : v = .slice none 0 0 := by
        simp only [madeCells, Array.toList_map, List.mem_map] at hv
        obtain ⟨a, _, rfl⟩ := hv
        simp [Value.cells, Nat.mod_one]
      subst this; simp [Value.ownBlock]
  clear hown hgrow A0 K0 hi0 hz0 hz1 hz2
  go_loopw [4, 15] (fun lv kv wr => ∃ (i : Nat) (cs : List Value), i ≤ ls.length ∧ kv = .int .i64 (i : Int) ∧ lv = .int .i64 ((metL ls i 0).length : Int) ∧ PW w wr ls.length cs ((plains ls).take i) (metL ls i 0)) (fun _ kv _ => ls.length - (intOf kv).toNat)
  case atStart => exact ⟨0, _, Nat.zero_le _, rfl, rfl, P0⟩
  case round =>
    clear P0
    obtain ⟨i, cs, hile, rfl, rfl, hP⟩ := hrel
    by_cases hlt : i < ls.length
    · obtain ⟨lb, loff, ao, cap, rfl, hlb, hlc, hia, hnil⟩ := (hl.same hP.s).get hlt
      have hti := HB.out ls[i] (List.getElem_mem hlt)
      have hdl : ((plains ls).take i).length = i := by rw [List.length_take, plains_length]; omega
      have cj : Calls Try.prog 52 #[.slice (some ⟨wr.heap.size, 0, none⟩) 1 1] (wr.alloc (.cells #[.slice ao ls[i].length cap] 25)) fun e w' => ∃ v, e = .returned v ∧ Row wr.heap.size w' v ls[i] ∧ Same0 wr w' := by
        have hparts : PartsAt (wr.alloc (.cells #[.slice ao ls[i].length cap] 25)) wr.heap.size [⟨ao, cap, ls[i]⟩] := parts_one hia rfl
        refine (join_any hparts (pc := 1) (by simp) (by simp [allOf]; omega)).mono ?_
        rintro e w4 ⟨v, rfl, hr, hk4⟩
        have e5 : allOf [⟨ao, cap, ls[i]⟩] = ls[i] := by simp [allOf]
        rw [e5] at hr
        exact ⟨v, rfl, row_mono hr (by simp), Same0.new hk4⟩
      have HM := fun k (hk : k < ls[i].length) => metL_step hlt hk
      have HMS : Hid (∀ k (hk : k < ls[i].length), metL ls i (k + 1) = vstep (metL ls i k) ls[i][k]) := HM
      have HPL : Hid (∀ (k v : Nat) (hk : k < ls[i].length), ls[i][k] = -(v : Int) → isV ls[i][k] = true → pl (orderL ls) ls[i][k] = -(newN (metL ls i (k + 1)) v : Int)) := fun k v hk hx hv => pl_new hlt hk hx hv
      have HML : Hid (∀ k, k ≤ ls[i].length → (metL ls i k).length ≤ 2000000000000) := fun k hk => metL_le hn HB.out hlt hk
      have HROW : Hid (metL ls i ls[i].length = metL ls (i + 1) 0) := metL_row hlt
      have HGET : Hid ((plains ls).take (i + 1) = (plains ls).take i ++ [curL (orderL ls) ls[i] ls[i].length]) := plains_get hlt
      have HIA : Hid (∀ w', Same0 w w' → IntsAt w' ao ls[i]) := by
        obtain ⟨lb', loff', ao', cap', e1, hlb', hlc', hia', _⟩ := hl.get hlt
        cases e1
        have e2 := (hP.s.cell (p := ⟨lb, loff + i, none⟩) hlb' (fun f => f)).trans hlc'
        rw [hlc] at e2
        simp only [Option.some.injEq, Value.slice.injEq, true_and] at e2
        obtain ⟨rfl, rfl⟩ := e2
        exact fun w' hk => hia'.same hk
      have i1 : (0 : Int) ≤ (i : Int) := by omega
      have i2 : (i : Int) < (ls.length : Int) := by omega
      clear HM hia hnil
      generalize hT : ls[i] = t at *
      generalize (plains ls).take i = done at *
      subst hdl
      go_wp2_with fail
      refine cj.mono ?_
      rintro e w4 ⟨v, rfl, hr4, k4⟩
      obtain ⟨vv, _, q1, q2⟩ := (hP.same k4).pl.cell hlt
      have hA := hP.add k4 hr4 hlt
      obtain ⟨vo, vcap, rfl⟩ := row_shape hr4
      clear cj hr4 hP
      go_wp2
      obtain ⟨wo, rfl⟩ : ∃ wo : World, wo = wr := ⟨_, rfl⟩
      have hA' := hA
      rw [show t = curL (orderL ls) t 0 by rw [curL_zero]] at hA'
      go_loopw [4, 28] (fun lv kv wr => ∃ (k : Nat) (cs : List Value), k ≤ t.length ∧ kv = .int .i64 (k : Int) ∧ lv = .int .i64 ((metL ls done.length k).length : Int) ∧ PW w wr ls.length cs (done ++ [curL (orderL ls) t k]) (metL ls done.length k)) (fun _ kv _ => t.length - (intOf kv).toNat)
      case atStart => exact ⟨0, _, Nat.zero_le _, rfl, rfl, hA'⟩
      case round =>
        clear hA hA' q1 q2
        obtain ⟨k, cs2, hkle, rfl, rfl, hP⟩ := hrel
        by_cases hkl : k < t.length
        · obtain ⟨ab, aoff, rfl, _, hac⟩ := (HIA.out wr hP.s).get hkl
          have E := HMS.out k hkl
          have hPL := fun v hx hv => HPL.out k v hkl hx hv
          have CN : Hid ((curL (orderL ls) t k).set k (pl (orderL ls) t[k]) = curL (orderL ls) t (k + 1)) := curL_next hkl
          have CS : Hid (isV t[k] = false → curL (orderL ls) t (k + 1) = curL (orderL ls) t k) := fun hv => curL_same hkl hv
          have CG := curL_get (O := orderL ls) hkl
          have cl := curL_length (orderL ls) t k hkle
          have cV := fun w' => isVariable_any t[k] w'
          have m0 : (0 : Int) ≤ (k : Int) := by omega
          have m1 : (k : Int) < (t.length : Int) := by omega
          have ml := vs_len (vs [] (ls.take done.length).flatten) ((ls.getD done.length []).take k)
          cases hv : isV t[k] with
          | false =>
            have E1 : metL ls done.length (k + 1) = metL ls done.length k := by rw [E]; exact vstep_no hv
            have hP2 : PW w wr ls.length cs2 (done ++ [curL (orderL ls) t (k + 1)]) (metL ls done.length (k + 1)) := by rw [CS.out hv, E1]; exact hP
            have E2 : Hid ((metL ls done.length (k + 1)).length = (metL ls done.length k).length) := by rw [E1]; rfl
            simp only [hv] at cV
            clear E hPL hP E1 CG cl ml
            go_wp2_with (first | (go_at_call 56; refine (cV _).mono ?_; rintro e wr ⟨rfl, rfl⟩))
            go_roundw
            case rel => first | exact ⟨k + 1, cs2, by omega, by go_num, by rw [E2.out], hP2⟩ | ((repeat apply Exists.intro); exact ⟨⟨k + 1, cs2, by omega, by go_num, by rw [E2.out], hP2⟩, rfl⟩)
            case measure => simp [intOf]; omega
          | true =>
            have hx := isV_iff.1 hv
            obtain ⟨v, hvx⟩ : ∃ v : Nat, t[k] = -(v : Int) := ⟨(-t[k]).toNat, by omega⟩
            have hv1 : 1 ≤ v := by omega
            have hv2 : v ≤ 99 := by omega
            have hpx := hPL v hvx hv
            simp only [hv] at cV
            rw [hvx] at cV hac
            have j1 : (0 : Int) ≤ (v : Int) := by omega
            have j2 : (v : Int) < 100 := by omega
            have hml := HML.out k hkle
            by_cases hin : (v : Int) ∈ metL ls done.length k
            · have E1 : metL ls done.length (k + 1) = metL ls done.length k := by rw [E]; exact vstep_in (by rw [hvx]; simpa [inB] using hin)
              have hnz : newN (metL ls done.length k) v ≠ 0 := by simp [newN, hin]
              have hP1 : PW w wr ls.length cs2 (done ++ [curL (orderL ls) t k]) (metL ls done.length (k + 1)) := by rw [E1]; exact hP
              obtain ⟨q1, q2⟩ := hP.an.cell hv1 hv2
              obtain ⟨r, rc, r1, r2, ⟨old, r3⟩, hPn⟩ := hP1.put (k := k) (by rw [cl]; exact hkl) (-(newN (metL ls done.length (k + 1)) v : Int))
              rw [← hpx, CN.out, hpx] at hPn
              rw [cl] at r1
              have f4 := (hP1.an.cell hv1 hv2).1
              have d1 : (wr).drew.cell? ⟨w.heap.size + 1, done.length, none⟩ = some (.slice (some ⟨r, 0, none⟩) t.length rc) := r1
              have d2 : (wr).drew.cell? ⟨r, k, none⟩ = some old := r3
              have d3 : (wr).drew.frozen? ⟨r, k, none⟩ = false := r2
              have d4 : (wr).drew.cell? ⟨w.heap.size, v, none⟩ = some (.int .i64 (newN (metL ls done.length (k + 1)) v : Int)) := f4
              have E2 : Hid ((metL ls done.length (k + 1)).length = (metL ls done.length k).length) := by rw [E1]; rfl
              rw [E1] at hPn d4
              have HE1 : Hid (metL ls done.length (k + 1) = metL ls done.length k) := E1
              have hb : newN (metL ls done.length k) v ≤ 3000000000000 := by simp only [newN, hin, if_true]; have := List.idxOf_le_length (a := (v : Int)) (l := metL ls done.length k); omega
              have hz : ((newN (metL ls done.length k) v : Int) == 0) = false := by simp; omega
              have hz' : ¬ (newN (metL ls done.length k) v : Int) = 0 := by omega
              have hz'' : ¬ newN (metL ls done.length k) v = 0 := hnz
              clear E hPL E1 CG cl ml hP hP1 r1 r2 r3 f4 hpx q2
              generalize newN (metL ls done.length k) v = N at *
              go_wp2_with (first | (go_at_call 56; refine (cV _).mono ?_; rintro e wr ⟨rfl, rfl⟩))
              go_region
              all_goals
                go_wp2
                have hPd := hPn.same ((Kept.refl _ _).drew)
                go_roundw
                case rel => first | exact ⟨k + 1, cs2, by omega, by go_num, by rw [E2.out], by rw [HE1.out]; exact hPd⟩ | ((repeat apply Exists.intro); exact ⟨⟨k + 1, cs2, by omega, by go_num, by rw [E2.out], by rw [HE1.out]; exact hPd⟩, rfl⟩)
                case measure => simp [intOf]; omega
            · have hin' : inB (metL ls done.length k) (-t[k]) = false := by rw [hvx]; simpa [inB] using hin
              have E1 : metL ls done.length (k + 1) = metL ls done.length k ++ [(v : Int)] := by rw [E, vstep_yes hv hin', hvx]; simp
              have hnz : newN (metL ls done.length k) v = 0 := by simp [newN, hin]
              have hP1 := hP.anew hv1 hv2 hin
              rw [← E1] at hP1
              obtain ⟨q1, q2⟩ := hP.an.cell hv1 hv2
              rw [hnz] at q1
              obtain ⟨r, rc, r1, r2, ⟨old, r3⟩, hPn⟩ := hP1.put (k := k) (by rw [cl]; exact hkl) (-(newN (metL ls done.length (k + 1)) v : Int))
              rw [← hpx, CN.out, hpx] at hPn
              rw [cl] at r1
              have f4 := (hP1.an.cell hv1 hv2).1
              have d1 : (wr.setCell ⟨w.heap.size, v, none⟩ (.int .i64 (((metL ls done.length k).length : Int) + 1))).drew.cell? ⟨w.heap.size + 1, done.length, none⟩ = some (.slice (some ⟨r, 0, none⟩) t.length rc) := r1
              have d2 : (wr.setCell ⟨w.heap.size, v, none⟩ (.int .i64 (((metL ls done.length k).length : Int) + 1))).drew.cell? ⟨r, k, none⟩ = some old := r3
              have d3 : (wr.setCell ⟨w.heap.size, v, none⟩ (.int .i64 (((metL ls done.length k).length : Int) + 1))).drew.frozen? ⟨r, k, none⟩ = false := r2
              have d4 : (wr.setCell ⟨w.heap.size, v, none⟩ (.int .i64 (((metL ls done.length k).length : Int) + 1))).drew.cell? ⟨w.heap.size, v, none⟩ = some (.int .i64 (newN (metL ls done.length (k + 1)) v : Int)) := f4
              have E2 : Hid (((metL ls done.length (k + 1)).length : Int) = ((metL ls done.length k).length : Int) + 1) := by show _ = _; rw [E1]; simp
              have hNN : newN (metL ls done.length (k + 1)) v ≤ 3000000000000 := by
                have := HML.out (k + 1) (by omega)
                unfold newN
                split
                · have := List.idxOf_le_length (a := (v : Int)) (l := metL ls done.length (k + 1)); omega
                · omega
              clear E hPL E1 CG cl ml hP hP1 r1 r2 r3 f4 hpx hnz hin'
              generalize newN (metL ls done.length (k + 1)) v = N at *
              generalize hML : (metL ls done.length k).length = M at *
              go_wp2_with (first | (go_at_call 56; refine (cV _).mono ?_; rintro e wr ⟨rfl, rfl⟩))
              go_region
              all_goals
                go_wp2
                have hPd := hPn.same ((Kept.refl _ _).drew)
                go_roundw
                case rel => first | exact ⟨k + 1, cs2, by omega, by go_num, by rw [E2.out], hPd⟩ | ((repeat apply Exists.intro); exact ⟨⟨k + 1, cs2, by omega, by go_num, by rw [E2.out], hPd⟩, rfl⟩)
                case measure => simp [intOf]; omega
        · obtain rfl : k = t.length := by omega
          rw [HROW.out] at hP
          rw [← HGET.out] at hP
          have E2 : Hid ((metL ls done.length t.length).length = (metL ls (done.length + 1) 0).length) := by rw [HROW.out]; rfl
          clear HMS HPL
          go_wp2
          go_roundw
          case rel => first | exact ⟨done.length + 1, cs2, by omega, by go_num, by rw [E2.out], hP⟩ | ((repeat apply Exists.intro); exact ⟨⟨done.length + 1, cs2, by omega, by go_num, by rw [E2.out], hP⟩, rfl⟩)
          case measure => simp [intOf]; omega
    · obtain rfl : i = ls.length := by omega
      rw [List.take_of_length_le (by rw [plains_length]; exact Nat.le_refl _)] at hP
      have hs := hP.s
      have hpl := hP.pl
      clear hP
      go_wp2
      go_ret
      exact ⟨w.heap.size + 1, cs, rfl, hpl, hs⟩
end Go.Proofs.Ytbcchplcppogoaa
