import Derived.Test.YthhcnllabhfejaaGUnifyMost08
import Derived.Test.YthhcnllabhfejaaGUnifyMost03
import Derived.Test.YthhcnllabhfejaaGUnifyMost04
import Derived.Laws.AppendOwnNone
/- The walks of Variables: the document's and the program's. -/
namespace Go.Proofs.Ythhcnllabhfejaa
set_option linter.unusedVariables false
open Go.RowKit
attribute [local go_sem ↓] Go.wp_at_zero Go.wp_at_succ
set_option maxHeartbeats 1000000 in
theorem rIsV_any (x : Int) (w : World) : Calls Try.prog 47 #[.int .i64 x] w fun e w' => e = .returned (.bool (isV x)) ∧ w' = w := by
  by_cases h1 : x < 0
  · by_cases h2 : -99 ≤ x
    · have H : Hid (isV x = true) := by show _ = _; simp [isV]; omega
      go_enter Try.func47, Try.ntmps47
      go_wp2
      go_ret
      exact ⟨by rw [H.out]; rfl, rfl⟩
    · have H : Hid (isV x = false) := by show _ = _; simp [isV]; omega
      go_enter Try.func47, Try.ntmps47
      go_wp2
      go_ret
      exact ⟨by rw [H.out]; rfl, rfl⟩
  · have H : Hid (isV x = false) := by show _ = _; simp [isV]; omega
    go_enter Try.func47, Try.ntmps47
    go_wp2
    go_ret
    exact ⟨by rw [H.out]; rfl, rfl⟩
def inB (l : List Int) (n : Int) : Bool := decide (n ∈ l)
set_option maxHeartbeats 1000000 in
theorem rIn_any {w : World} {ao : Option Addr} {cap : Nat} {l : List Int} (hl : IntsAt w ao l) (n : Int) (hm : l.length ≤ maxLen) : Calls Try.prog 48 #[.slice ao l.length cap, .int .i64 n] w fun e w' => e = .returned (.bool (inB l n)) ∧ w' = w := by
  unfold maxLen at hm
  go_enter Try.func48, Try.ntmps48
  go_wp2
  go_loop [5] (fun i => ∃ k : Nat, k ≤ l.length ∧ i = .int .i64 (k : Int) ∧ Hid (¬ n ∈ l.take k)) (fun i => l.length - (intOf i).toNat)
  case atStart => exact ⟨0, Nat.zero_le _, rfl, by simp [Hid]⟩
  case round =>
    obtain ⟨k, hk, rfl, hn⟩ := hrel
    by_cases hlt : k < l.length
    · obtain ⟨b, off, rfl, _, hc⟩ := hl.get hlt
      have i1 : (0 : Int) ≤ (k : Int) := by omega
      have i2 : (k : Int) < (l.length : Int) := by omega
      by_cases he : l[k] = n
      · have H : Hid (inB l n = true) := by show _ = _; simp [inB]; rw [← he]; exact List.getElem_mem hlt
        have he' : (l[k] == n) = true := by simpa using he
        go_wp2
        go_ret
        exact ⟨by rw [H.out]; rfl, rfl⟩
      · have he' : (l[k] == n) = false := by simpa using he
        have hn' : Hid (¬ n ∈ l.take (k + 1)) := by
          rw [List.take_add_one, List.getElem?_eq_getElem hlt]
          intro hh
          rcases List.mem_append.1 hh with hh | hh
          · exact hn.out hh
          · simp at hh; exact he hh.symm
        go_wp2
        exact ⟨⟨k + 1, by omega, by go_num, hn'⟩, by simp [intOf]; omega⟩
    · have H : Hid (inB l n = false) := by
        have := hn.out
        rw [List.take_of_length_le (by omega)] at this
        show _ = _; simpa [inB] using this
      go_wp2
      go_ret
      exact ⟨by rw [H.out]; rfl, rfl⟩
theorem vstep_yes {o : List Int} {x : Int} (h1 : isV x = true) (h2 : inB o (-x) = false) : vstep o x = o ++ [-x] := by
  rw [vstep, if_pos ⟨h1, by simpa [inB] using h2⟩]
theorem vstep_in {o : List Int} {x : Int} (h2 : inB o (-x) = true) : vstep o x = o := by
  rw [vstep, if_neg (by simp [inB] at h2; simp [h2])]
theorem vstep_no {o : List Int} {x : Int} (h1 : isV x = false) : vstep o x = o := by
  rw [vstep, if_neg (by simp [h1])]
set_option maxHeartbeats 2000000 in
theorem rvars_any {w : World} {ao : Option Addr} {cap : Nat} {t : List Int} (ht : IntsAt w ao t) (hm : t.length * 8 ≤ 140737488351232) :
    Calls Try.prog 31 #[.slice ao t.length cap] w fun e w' => ∃ v, e = .returned v ∧ Row w.heap.size w' v (varsL t) ∧ Same0 w w' := by
  go_enter Try.func31, Try.ntmps31
  go_wp2
  go_loopw [3, 4] (fun ov i wr => ∃ k : Nat, k ≤ t.length ∧ i = .int .i64 (k : Int) ∧ Row w.heap.size wr ov (varsL (t.take k)) ∧ Same0 w wr) (fun _ i _ => t.length - (intOf i).toNat)
  case atStart => exact ⟨0, Nat.zero_le _, rfl, World.ownsRow_nil _ _ _ _, Kept.refl _ _⟩
  case round =>
    obtain ⟨k, hk, rfl, hr, hs⟩ := hrel
    obtain ⟨oo, ocap, rfl⟩ := row_shape hr
    by_cases hlt : k < t.length
    · obtain ⟨b, off, rfl, _, hc⟩ := (ht.same hs).get hlt
      have i1 : (0 : Int) ≤ (k : Int) := by omega
      have i2 : (k : Int) < (t.length : Int) := by omega
      have E : Hid (varsL (t.take (k + 1)) = vstep (varsL (t.take k)) t[k]) := vs_take hlt
      have hl := vs_len [] (t.take k)
      have hl2 : (varsL (t.take k)).length ≤ t.length := by simp at hl; unfold varsL; omega
      have cV := fun w' => rIsV_any t[k] w'
      clear hl
      generalize hO : varsL (t.take k) = O at *
      generalize hX : t[k] = x at *
      cases hv : isV x with
      | false =>
        have E1 : Hid (varsL (t.take (k + 1)) = O) := by rw [E.out]; exact vstep_no hv
        rw [← E1.out] at hr
        simp only [hv] at cV
        have hlE := congrArg List.length E1.out
        rw [← hlE]
        clear hlE
        go_wp2_with (first | (go_at_call 47; refine (cV _).mono ?_; rintro e wr ⟨rfl, rfl⟩))
        go_roundw
        case rel => first | exact ⟨k + 1, by omega, by go_num, hr, hs⟩ | ((repeat apply Exists.intro); exact ⟨⟨k + 1, by omega, by go_num, hr, hs⟩, rfl⟩)
        case measure => simp [intOf]; omega
      | true =>
        simp only [hv] at cV
        have hx := isV_iff.1 hv
        obtain ⟨oo', ocap', hvv, io, _, _⟩ := hr.ints
        simp only [Value.slice.injEq, true_and] at hvv
        obtain ⟨rfl, rfl⟩ := hvv
        have cI := rIn_any (cap := ocap) io (-x) (by unfold maxLen; omega)
        cases hin : inB O (-x) with
        | true =>
          have E1 : Hid (varsL (t.take (k + 1)) = O) := by rw [E.out]; exact vstep_in hin
          rw [hin] at cI
          go_wp2_with (first | (go_at_call 47; refine (cV _).mono ?_; rintro e wr ⟨rfl, rfl⟩) | (go_at_call 48; refine cI.mono ?_; rintro e wr ⟨rfl, rfl⟩))
          rw [← E1.out] at hr
          have hrE : Row w.heap.size wr (.slice oo O.length ocap) (varsL (t.take (k + 1))) := by rw [E1.out] at hr ⊢; exact hr
          exact ⟨⟨k + 1, by omega, by go_num, hrE, hs⟩, by simp [intOf]; omega⟩
        | false =>
          have E1 : Hid (varsL (t.take (k + 1)) = O ++ [-x]) := by rw [E.out]; exact vstep_yes hv hin
          rw [hin] at cI
          have hb8 : (O.length + 1) * 8 ≤ 140737488355328 := by omega
          have hss := hs.size
          go_wp2_with (first | (go_at_call 47; refine (cV _).mono ?_; rintro e wr ⟨rfl, rfl⟩) | (go_at_call 48; refine cI.mono ?_; rintro e wr ⟨rfl, rfl⟩) | (at_builtin; refine wpList_push rfl _ _ 24 rfl Try.underlying24 w.heap.size O _ rfl hr (-x) rfl hss hb8 ?_; intro g gcap w4 hr4 hk4 _; have hs4 := hs.onto hr hk4))
          rw [← E1.out] at hr4
          go_roundw
          case rel => first | exact ⟨k + 1, by omega, by go_num, hr4, hs4⟩ | ((repeat apply Exists.intro); exact ⟨⟨k + 1, by omega, by go_num, hr4, hs4⟩, rfl⟩)
          case measure => simp [intOf]; omega
    · obtain rfl : k = t.length := by omega
      rw [List.take_length] at hr
      go_wp2
      go_ret
      refine ⟨_, rfl, ?_, hs⟩
      simpa using hr
end Go.Proofs.Ythhcnllabhfejaa
/- The walk of the program's Plain. -/
namespace Go.Proofs.Ythhcnllabhfejaa
set_option linter.unusedVariables false
open Go.RowKit
attribute [local go_sem ↓] Go.wp_at_zero Go.wp_at_succ
theorem info_term : (Try.prog.info? 25).map (fun i => (i.zero, i.size, i.bytes)) = some (some (.slice none 0 0), 1, 24) := by kernel_rfl
/-- The new number of a variable, 0 if it has none. -/
def newN (o : List Int) (v : Nat) : Nat := if (v : Int) ∈ o then o.idxOf (v : Int) + 1 else 0
/-- Lists that lie in memory. -/
def Lists (w : World) (lo : Option Addr) (ls : List (List Int)) : Prop :=
  ls = [] ∨ ∃ b off, lo = some ⟨b, off, none⟩ ∧ b < w.heap.size ∧ ∀ i (h : i < ls.length), ∃ ao cap, w.cell? ⟨b, off + i, none⟩ = some (.slice ao ls[i].length cap) ∧ IntsAt w ao ls[i] ∧ (ao = none → ls[i].length = 0 ∧ cap = 0)
theorem Lists.same {w w' : World} {lo : Option Addr} {ls : List (List Int)} (h : Lists w lo ls) (hk : Same0 w w') : Lists w' lo ls := by
  refine h.imp id ?_
  rintro ⟨b, off, rfl, hlt, hc⟩
  refine ⟨b, off, rfl, Nat.lt_of_lt_of_le hlt hk.size, fun i hi => ?_⟩
  obtain ⟨ao, cap, c1, c2, c3⟩ := hc i hi
  exact ⟨ao, cap, (hk.cell (p := ⟨b, off + i, none⟩) hlt (fun f => f)).trans c1, c2.same hk, c3⟩
theorem Lists.get {w : World} {lo : Option Addr} {ls : List (List Int)} (h : Lists w lo ls) {i : Nat} (hi : i < ls.length) : ∃ b off ao cap, lo = some ⟨b, off, none⟩ ∧ b < w.heap.size ∧ w.cell? ⟨b, off + i, none⟩ = some (.slice ao ls[i].length cap) ∧ IntsAt w ao ls[i] ∧ (ao = none → ls[i].length = 0 ∧ cap = 0) := by
  rcases h with rfl | ⟨b, off, e, hlt, hc⟩
  · simp at hi
  · obtain ⟨ao, cap, c1, c2, c3⟩ := hc i hi
    exact ⟨b, off, ao, cap, e, hlt, c1, c2, c3⟩
/-- What Plain has made, when some lists are done. -/
structure PlAt (s : Nat) (wr : World) (g n : Nat) (cs : List Value) (done : List (List Int)) : Prop where
  row : wr.ownsRow s 25 1 (.slice (some ⟨g, 0, none⟩) n n) n cs
  len : done.length ≤ n
  each : ∀ j (h : j < done.length), ∃ v, cs[j]? = some v ∧ Row s wr v done[j] ∧ v.ownBlock ≠ some g
  apart : ∀ i j vi vj, i < done.length → j < done.length → i ≠ j → cs[i]? = some vi → cs[j]? = some vj → ∀ k, vi.ownBlock = some k → vj.ownBlock ≠ some k
theorem PlAt.kept {s : Nat} {wr w' : World} {g n : Nat} {cs : List Value} {done : List (List Int)} {S : Nat → Prop} (h : PlAt s wr g n cs done) (hk : Kept S wr w') (hn : ∀ k, s ≤ k → k < wr.heap.size → (k = g ∨ ∃ v ∈ cs, v.ownBlock = some k) → ¬ S k) : PlAt s w' g n cs done := by
  have gl := h.row.lt g rfl
  refine ⟨hk.row h.row (fun k e => ?_), h.len, fun j hj => ?_, h.apart⟩
  · have e' : k = g := by simpa [Value.ownBlock] using e.symm
    subst e'
    exact hn k gl.1 gl.2 (.inl rfl)
  · obtain ⟨v, h1, h2, h3⟩ := h.each j hj
    refine ⟨v, h1, hk.row h2 (fun k e => ?_), h3⟩
    have := h2.lt k e
    exact hn k this.1 this.2 (.inr ⟨v, List.mem_of_getElem? h1, e⟩)
theorem PlAt.same {s : Nat} {wr w' : World} {g n : Nat} {cs : List Value} {done : List (List Int)} (h : PlAt s wr g n cs done) (hk : Same0 wr w') : PlAt s w' g n cs done := h.kept hk (fun _ _ _ _ f => f)
theorem PlAt.cell {s : Nat} {wr : World} {g n : Nat} {cs : List Value} {done : List (List Int)} (h : PlAt s wr g n cs done) {j : Nat} (hj : j < n) : ∃ v, cs[j]? = some v ∧ wr.cell? ⟨g, j, none⟩ = some v ∧ wr.frozen? ⟨g, j, none⟩ = false := by
  have hl : j < cs.length := by have := h.row.1; omega
  exact ⟨cs[j], List.getElem?_eq_getElem hl, (h.row.cellAt j (by omega)).trans (List.getElem?_eq_getElem hl), h.row.frozenAt j⟩
/-- A list more. -/
theorem PlAt.add {s : Nat} {wr : World} {g n : Nat} {cs : List Value} {done : List (List Int)} (h : PlAt s wr g n cs done) {v : Value} {t : List Int} (hr : Row s wr v t) (hd : done.length < n) (hg : v.ownBlock ≠ some g) (hv : ∀ j vj, j < done.length → cs[j]? = some vj → ∀ k, v.ownBlock = some k → vj.ownBlock ≠ some k) :
    PlAt s (wr.setCell ⟨g, done.length, none⟩ v) g n (cs.set done.length v) (done ++ [t]) := by
  have hl : cs.length = n := by have := h.row.1; omega
  have ks : Kept (fun k => k = g) wr (wr.setCell ⟨g, done.length, none⟩ v) := Kept.setCell (S := fun k => k = g) (p := ⟨g, done.length, none⟩) (Kept.refl _ _) (fun _ => rfl) _
  refine ⟨(h.row.stored done.length v).1, by simp; omega, fun j hj => ?_, ?_⟩
  · by_cases e : j = done.length
    · subst e
      refine ⟨v, List.getElem?_set_self (by omega), ?_, hg⟩
      simpa using ks.row hr (fun k e e' => hg (by rw [e, e']))
    · have hj' : j < done.length := by simp at hj; omega
      obtain ⟨v', h1, h2, h3⟩ := h.each j hj'
      refine ⟨v', by rw [List.getElem?_set_ne (by omega)]; exact h1, ?_, h3⟩
      rw [List.getElem_append_left hj']
      exact ks.row h2 (fun k e e' => h3 (by rw [e, e']))
  · intro i j vi vj hi hj hij hvi hvj k hk
    simp at hi hj
    by_cases e1 : i = done.length
    · subst e1
      rw [List.getElem?_set_self (by omega)] at hvi
      cases hvi
      rw [List.getElem?_set_ne (by omega)] at hvj
      exact hv j vj (by omega) hvj k hk
    · rw [List.getElem?_set_ne (by omega)] at hvi
      by_cases e2 : j = done.length
      · subst e2
        rw [List.getElem?_set_self (by omega)] at hvj
        cases hvj
        intro e3
        exact hv i vi (by omega) hvi k e3 hk
      · rw [List.getElem?_set_ne (by omega)] at hvj
        exact h.apart i j vi vj (by omega) (by omega) hij hvi hvj k hk
/-- A number of the last list is turned. -/
theorem PlAt.put {s : Nat} {wr : World} {g n : Nat} {cs : List Value} {done : List (List Int)} {t : List Int} (h : PlAt s wr g n cs (done ++ [t])) {k : Nat} (hk : k < t.length) (x : Int) :
    ∃ r cap, cs[done.length]? = some (.slice (some ⟨r, 0, none⟩) t.length cap) ∧ r ≠ g ∧ s ≤ r ∧ r < wr.heap.size ∧ wr.cell? ⟨r, k, none⟩ = some (.int .i64 t[k]) ∧ wr.frozen? ⟨r, k, none⟩ = false ∧ PlAt s (wr.setCell ⟨r, k, none⟩ (.int .i64 x)) g n cs (done ++ [t.set k x]) := by
  have hd : done.length < (done ++ [t]).length := by simp
  obtain ⟨v, h1, h2, h3⟩ := h.each done.length hd
  have e0 : (done ++ [t])[done.length] = t := by simp
  rw [e0] at h2
  obtain ⟨r, cap, hv, hb, hlt⟩ := h2.form (by omega)
  subst hv
  have hrg : r ≠ g := fun e => h3 (by rw [e]; rfl)
  have hrow := h2
  have ks : Kept (fun k => k = r) wr (wr.setCell ⟨r, k, none⟩ (.int .i64 x)) := Kept.setCell (S := fun k => k = r) (p := ⟨r, k, none⟩) (Kept.refl _ _) (fun _ => rfl) _
  refine ⟨r, cap, h1, hrg, hb, hlt, (hrow.cellAt k (by omega)).trans (iv_get hk), hrow.frozenAt k, ⟨ks.row h.row (fun k' e e' => hrg (by simp [Value.ownBlock] at e; omega)), by have := h.len; simpa using this, fun j hj => ?_, ?_⟩⟩
  · by_cases e : j = done.length
    · subst e
      refine ⟨_, h1, ?_, h3⟩
      have := (hrow.stored k (.int .i64 x)).1
      have e1 : (done ++ [t.set k x])[done.length] = t.set k x := by simp
      rw [e1]
      unfold Row
      rw [List.length_set]
      have e2 : iv (t.set k x) = (iv t).set k (.int .i64 x) := by simp [iv, List.map_set]
      rw [e2]; exact this
    · have hj' : j < done.length := by simp at hj; omega
      obtain ⟨v', g1, g2, g3⟩ := h.each j (by simp; omega)
      refine ⟨v', g1, ?_, g3⟩
      rw [List.getElem_append_left hj'] at g2 ⊢
      refine ks.row g2 (fun k' e1 e2 => ?_)
      exact h.apart j done.length v' _ (by simp; omega) (by simp) (by omega) g1 h1 k' e1 (by simp [Value.ownBlock]; omega)
  · intro i j vi vj hi hj
    exact h.apart i j vi vj (by simpa using hi) (by simpa using hj)
/-- A list half way. -/
def curL (O t : List Int) (k : Nat) : List Int := (t.take k).map (Proofs.Ythhcnllabhfejaa.pl O) ++ t.drop k
theorem curL_length (O t : List Int) (k : Nat) (hk : k ≤ t.length) : (curL O t k).length = t.length := by simp [curL]; omega
theorem curL_get {O t : List Int} {k : Nat} (hk : k < t.length) : (curL O t k)[k]'(by rw [curL_length O t k (by omega)]; exact hk) = t[k] := by
  unfold curL
  rw [List.getElem_append_right (by simp; omega)]
  simp [Nat.min_eq_left (Nat.le_of_lt hk)]
theorem take_one {α : Type} {t : List α} {k : Nat} (hk : k < t.length) : t.take (k + 1) = t.take k ++ [t[k]] := by
  rw [List.take_add_one, List.getElem?_eq_getElem hk]; rfl
theorem curL_next {O t : List Int} {k : Nat} (hk : k < t.length) : (curL O t k).set k (Proofs.Ythhcnllabhfejaa.pl O t[k]) = curL O t (k + 1) := by
  have hl : ((t.take k).map (Proofs.Ythhcnllabhfejaa.pl O)).length = k := by simp; omega
  unfold curL
  rw [List.set_append_right _ _ (by rw [hl]; exact Nat.le_refl _), hl, Nat.sub_self, List.drop_eq_getElem_cons hk, List.set_cons_zero, take_one hk, List.map_append, List.append_assoc]
  rfl
theorem curL_same {O t : List Int} {k : Nat} (hk : k < t.length) (hv : isV t[k] = false) : curL O t (k + 1) = curL O t k := by
  have e : Proofs.Ythhcnllabhfejaa.pl O t[k] = t[k] := by simp [Proofs.Ythhcnllabhfejaa.pl, hv]
  rw [← curL_next hk, e]
  apply List.ext_getElem
  · simp
  · intro i h1 h2
    rw [List.getElem_set]
    split
    · rename_i e; subst e; exact (curL_get hk).symm
    · rfl
theorem curL_zero (O t : List Int) : curL O t 0 = t := by simp [curL]
theorem curL_end (O t : List Int) : curL O t t.length = t.map (Proofs.Ythhcnllabhfejaa.pl O) := by simp [curL]
/-- The variables met when i lists, and k numbers of the next, are done. -/
def metL (ls : List (List Int)) (i k : Nat) : List Int := vs (vs [] (ls.take i).flatten) ((ls.getD i []).take k)
theorem metL_zero (ls : List (List Int)) (i : Nat) : metL ls i 0 = vs [] (ls.take i).flatten := by simp [metL, vs]
theorem metL_row {ls : List (List Int)} {i : Nat} (hi : i < ls.length) : metL ls i ls[i].length = metL ls (i + 1) 0 := by
  rw [metL_zero, metL]
  have e : ls.getD i [] = ls[i] := by simp [hi]
  rw [e, List.take_length, ← vs_append, take_one hi, List.flatten_append]
  simp only [List.flatten_cons, List.flatten_nil, List.append_nil]
theorem metL_step {ls : List (List Int)} {i k : Nat} (hi : i < ls.length) (hk : k < ls[i].length) : metL ls i (k + 1) = vstep (metL ls i k) ls[i][k] := by
  have e : ls.getD i [] = ls[i] := by simp [hi]
  unfold metL
  rw [e, vs_take hk]
theorem metL_pre {ls : List (List Int)} {i k : Nat} (hi : i < ls.length) (hk : k ≤ ls[i].length) : metL ls i k <+: orderL ls := by
  have e : ls.getD i [] = ls[i] := by simp [hi]
  have e2 : ls.flatten = (ls.take i).flatten ++ (ls[i].take k ++ (ls[i].drop k ++ (ls.drop (i + 1)).flatten)) := by
    conv => lhs; rw [← List.take_append_drop i ls, List.drop_eq_getElem_cons hi]
    simp only [List.flatten_append, List.flatten_cons]
    rw [← List.append_assoc (ls[i].take k), List.take_append_drop]
  unfold orderL metL
  rw [e, e2, vs_append, vs_append]
  exact vs_sub _ _
theorem pl_new {ls : List (List Int)} {i k v : Nat} (hi : i < ls.length) (hk : k < ls[i].length) (hx : ls[i][k] = -(v : Int)) (hv : isV ls[i][k] = true) : Proofs.Ythhcnllabhfejaa.pl (orderL ls) ls[i][k] = -(newN (metL ls i (k + 1)) v : Int) := by
  have hp := metL_pre hi (k := k + 1) (by omega)
  have hm : (v : Int) ∈ metL ls i (k + 1) := by
    have e : ls.getD i [] = ls[i] := by simp [hi]
    unfold metL
    rw [e]
    have := vs_mem (o := vs [] (ls.take i).flatten) (t := ls[i].take (k + 1)) (x := ls[i][k]) (by rw [take_one hk]; exact List.mem_append_right _ (List.mem_singleton.2 rfl)) hv
    rw [hx] at this
    simpa using this
  have hid := idx_prefix hp hm
  have ex : - ls[i][k] = (v : Int) := by omega
  rw [Proofs.Ythhcnllabhfejaa.pl, if_pos hv, ex, hid, newN, if_pos hm]
  simp
theorem flat_le {ls : List (List Int)} {B : Nat} (h : ∀ t ∈ ls, t.length ≤ B) : ls.flatten.length ≤ ls.length * B := by
  induction ls with
  | nil => simp
  | cons t r ih =>
    have h1 := h t (by simp)
    have h2 := ih (fun x hx => h x (by simp [hx]))
    simp only [List.flatten_cons, List.length_append, List.length_cons, Nat.succ_mul]
    omega
theorem metL_le {ls : List (List Int)} (hn : ls.length ≤ 1048576) (h : ∀ t ∈ ls, t.length ≤ 1048576) {i k : Nat} (hi : i < ls.length) (hk : k ≤ ls[i].length) : (metL ls i k).length ≤ 2000000000000 := by
  have h1 := vs_len (vs [] (ls.take i).flatten) ((ls.getD i []).take k)
  have h2 := vs_len [] (ls.take i).flatten
  have h3 := flat_le (ls := ls.take i) (B := 1048576) (fun t ht => h t (List.mem_of_mem_take ht))
  have h4 : (ls.take i).length ≤ 1048576 := by simp; omega
  have h5 := h ls[i] (List.getElem_mem hi)
  have h6 : ((ls.getD i []).take k).length ≤ 1048576 := by simp; omega
  have h7 : (ls.take i).length * 1048576 ≤ 1048576 * 1048576 := Nat.mul_le_mul_right _ h4
  unfold metL
  simp only [List.length_nil, Nat.zero_add] at h2
  omega
theorem plains_length (ls : List (List Int)) : (plains ls).length = ls.length := by simp [plains]
theorem plains_get {ls : List (List Int)} {i : Nat} (hi : i < ls.length) : (plains ls).take (i + 1) = (plains ls).take i ++ [curL (orderL ls) ls[i] ls[i].length] := by
  rw [take_one (by rw [plains_length]; exact hi), curL_end]
  simp [plains]
end Go.Proofs.Ythhcnllabhfejaa
/- The walks of the document's Sub and Put. -/
namespace Go.Proofs.Ythhcnllabhfejaa
set_option linter.unusedVariables false
open Go.RowKit
attribute [local go_sem ↓] Go.wp_at_zero Go.wp_at_succ
/-- append of numbers that lie in memory to a row of the call's own. -/
theorem wpList_more {w0 : World} {ops : Array Oper} {rest : List Oper} {o : Oper} {a : Act} {Q : Exit → Act → World → Prop} (hgd : o.guard = none) (s x : Operand) (t : TypeId)
    (ho : o.op = .call { callee := .builtin .append, args := #[s, x], argTypes := #[t, t] }) (ht : Try.prog.underlying t = some (.slice 3))
    (base : Nat) (xs : List Int) (v : Value) (hs : a.eval s = v) (hr : Row base w0 v xs) (ys : List Int) (ad : Addr) (m c : Nat) (hx : a.eval x = .slice (some ad) m c) (hm : m = ys.length) (hy : IntsAt w0 (some ad) ys) (hb : base ≤ w0.heap.size) (hsz : (xs.length + ys.length) * 8 ≤ 140737488355328)
    (h : ∀ v' w', Row base w' v' (xs ++ ys) → Kept (fun k => v.ownBlock = some k) w0 w' → wpList Try.prog ops Q rest (a.put o.dst v') w') :
    wpList Try.prog ops Q (o :: rest) a w0 := by
  subst hm
  obtain ⟨i, hi, hz0, hz1, hz2⟩ := info_parts info_intT
  refine wpList_append_own _ hgd s x t ho base 3 i (.int .i64 0) 1 8 ht hi hz0 hz1 hz2 rfl (by decide) v xs.length (iv xs) hs hr ad ys.length c (iv ys) hx (by rw [iv_length]; omega) (fun j u hj => ?_) (iv_oneCell ys) (by unfold maxLen; omega) hsz hb ?_
  · obtain ⟨ad', e, hc⟩ := hy.src (by have := (List.getElem?_eq_some_iff.1 hj).1; omega)
    cases e
    exact hc j u hj
  · intro v' w' hown hgrow _
    refine h v' w' ?_ (Kept.grown (Kept.refl _ w0) hgrow (fun _ e _ => e))
    unfold Row; rw [iv_append, List.length_append]; exact hown
theorem row_empty (w : World) (base : Nat) (hb : base ≤ w.heap.size) {o : Obj} (ho : o = .cells #[] 3 (0, 0)) : Row base (w.alloc o) (.slice (some ⟨w.heap.size, 0, none⟩) 0 0) [] := by
  subst ho
  exact ⟨rfl, .inr ⟨w.heap.size, 0, #[], rfl, hb, heap_alloc_new w _, Nat.le_refl _, by unfold maxLen; omega, rfl, rfl⟩⟩
set_option maxHeartbeats 2000000 in
theorem rsub_any {n : Nat} {w : World} {rv : Value} {L : List Sym} (h : Rl n w rv L) {ao : Option Addr} {cap : Nat} {t : List Int} (ht : IntsAt w ao t) (hm : t.length ≤ 2000) (hcap : t.length ≤ cap) (hT : IsT L t) (p : Nat) (hp : p < t.length) :
    Calls Try.prog 28 #[rv, .slice ao t.length cap, .int .i64 (p : Int)] w fun e w' => ∃ v, e = .returned v ∧ Row w.heap.size w' v (subN L t p) ∧ Same0 w w' := by
  have c2 : ∀ w1, Same0 w w1 → Calls Try.prog 46 #[rv, .slice ao t.length cap, .int .i64 (p : Int)] w1 fun e w' => e = .returned (.int .i64 (endN L t p : Int)) ∧ w' = w1 := fun w1 hk => rend_any (cap := cap) (h.same hk) (ht.same hk) hm p (by omega)
  obtain ⟨ro, rcap, rfl⟩ := row_shape h.1
  obtain ⟨hl1, hl2⟩ := endN_le hT hp
  obtain ⟨tb, off, rfl, htb, hc⟩ := ht.get hp
  have hsl := sub_length hT hp
  have i0 : ¬ (p : Int) < 0 := by omega
  have i1 : (0 : Int) ≤ (p : Int) := by omega
  have i2 : (p : Int) ≤ (endN L t p : Int) := by omega
  have i3 : (endN L t p : Int) ≤ (cap : Int) := by omega
  have i4 : ¬ cap = p := by omega
  have i5 : (p : Int) < (t.length : Int) := by omega
  have cutI : ∀ w1, Same0 w w1 → IntsAt w1 (some ⟨tb, off + p, none⟩) (subN L t p) := fun w1 hk => (ht.same hk).cut p (endN L t p)
  go_enter Try.func28, Try.ntmps28
  have k0 : Same0 w (w.alloc (.cells #[] 3)) := (Kept.refl _ w).alloc _
  have r0 : Row w.heap.size (w.alloc (.cells #[] 3)) (.slice (some ⟨w.heap.size, 0, none⟩) 0 0) [] := row_empty w _ (Nat.le_refl _) rfl
  have cI := cutI _ k0
  have c3 := c2 _ k0
  have z0 := k0.size
  clear c2 cutI
  go_wp2_with (first | (go_at_call 46; refine c3.mono ?_; rintro e w' ⟨rfl, rfl⟩) | (at_builtin; refine wpList_more rfl _ _ 25 rfl Try.underlying25 w.heap.size [] _ rfl r0 (subN L t p) _ _ _ rfl (by omega) cI z0 (by simp; omega) ?_; intro v' w4 hr4 hk4))
  go_ret
  exact ⟨_, rfl, by simpa using hr4, k0.onto r0 hk4⟩
end Go.Proofs.Ythhcnllabhfejaa
/- The walks of trail's pass and path, of Path and Depth of package term. -/
namespace Go.Proofs.Ythhcnllabhfejaa
set_option linter.unusedVariables false
open Go.RowKit
attribute [local go_sem ↓] Go.wp_at_zero Go.wp_at_succ
def turnCells (l : List (Nat × Nat)) : List Value := l.flatMap fun x => [.int .i64 (x.1 : Int), .int .i64 (x.2 : Int)]
theorem turnCells_length (l : List (Nat × Nat)) : (turnCells l).length = l.length * 2 := by
  induction l with
  | nil => rfl
  | cons x r ih => simp [turnCells] at ih ⊢; omega
theorem turnCells_append (a b : List (Nat × Nat)) : turnCells (a ++ b) = turnCells a ++ turnCells b := by simp [turnCells]
theorem turnCells_at {l : List (Nat × Nat)} {i : Nat} (h : i < l.length) : (turnCells l)[i * 2]? = some (.int .i64 (l[i].1 : Int)) ∧ (turnCells l)[i * 2 + 1]? = some (.int .i64 (l[i].2 : Int)) := by
  induction l generalizing i with
  | nil => simp at h
  | cons x r ih =>
    have e : turnCells (x :: r) = .int .i64 (x.1 : Int) :: .int .i64 (x.2 : Int) :: turnCells r := by simp [turnCells]
    rw [e]
    cases i with
    | zero => simp
    | succ j =>
      have := ih (i := j) (by simpa using h)
      rw [show (j + 1) * 2 = j * 2 + 1 + 1 by omega]
      simpa using this
/-- The ways that a walk makes: no number beyond its arity. -/
def Fine (st : List (Nat × Nat)) : Prop := ∀ x ∈ st, x.1 < x.2 ∧ x.2 ≤ 6
theorem bump_fine {st : List (Nat × Nat)} (h : Fine st) : Fine (bump st) := by
  induction st with
  | nil => exact h
  | cons x r ih =>
    obtain ⟨j, a⟩ := x
    have hx := h (j, a) (by simp)
    have hr : Fine r := fun y hy => h y (by simp [hy])
    unfold bump
    split
    · intro y hy
      rcases List.mem_cons.1 hy with rfl | hy
      · exact ⟨by simpa using (by assumption : j + 1 < a), hx.2⟩
      · exact hr y hy
    · exact ih hr
theorem pass_fine {st : List (Nat × Nat)} (h : Fine st) {a : Nat} (ha : a ≤ 6) : Fine (pass st a) := by
  unfold pass
  split
  · intro y hy
    rcases List.mem_cons.1 hy with rfl | hy
    · exact ⟨by assumption, ha⟩
    · exact h y hy
  · exact bump_fine h
theorem bump_length (st : List (Nat × Nat)) : (bump st).length ≤ st.length := by
  induction st with
  | nil => simp [bump]
  | cons x r ih =>
    obtain ⟨j, a⟩ := x
    unfold bump
    split
    · simp
    · simp; omega
theorem pass_length (st : List (Nat × Nat)) (a : Nat) : (pass st a).length ≤ st.length + 1 := by
  unfold pass
  split
  · simp
  · have := bump_length st; omega
def TFoot (a : Nat) (v : Value) (k : Nat) : Prop := k = a ∨ v.ownBlock = some k
theorem row_take {w : World} {base g n cap size m : Nat} {e : TypeId} {xs : List Value} (h : w.ownsRow base e size (.slice (some ⟨g, 0, none⟩) n cap) n xs) (hm : m ≤ n) : w.ownsRow base e size (.slice (some ⟨g, 0, none⟩) m cap) m (xs.take (m * size)) := by
  have hl := h.1
  have hmn : m * size ≤ n * size := Nat.mul_le_mul_right _ hm
  refine ⟨by rw [List.length_take, hl]; omega, ?_⟩
  rcases h.2 with ⟨e1, _⟩ | ⟨g', cap', cur, hv, hb, hg, h1, h2, h3, h4⟩
  · cases e1
  · simp only [Value.slice.injEq, Option.some.injEq, Addr.mk.injEq, and_true, true_and] at hv
    obtain ⟨rfl, rfl⟩ := hv
    exact .inr ⟨g, cap, cur, rfl, hb, hg, by omega, h2, h3, by rw [← h4, List.take_take, Nat.min_eq_left hmn]⟩
end Go.Proofs.Ythhcnllabhfejaa
/- The walks of trail's path, of Path and Depth of package term. -/
namespace Go.Proofs.Ythhcnllabhfejaa
set_option linter.unusedVariables false
open Go.RowKit
attribute [local go_sem ↓] Go.wp_at_zero Go.wp_at_succ
def firsts (st : List (Nat × Nat)) : List Int := ofN (st.reverse.map Prod.fst)
theorem firsts_length (st : List (Nat × Nat)) : (firsts st).length = st.length := by simp [firsts, ofN]
theorem firsts_take {st : List (Nat × Nat)} {k : Nat} (h : k < st.length) : (firsts st).take (k + 1) = (firsts st).take k ++ [((st.reverse[k]'(by simpa using h)).1 : Int)] := by
  rw [List.take_add_one, List.getElem?_eq_getElem (by rw [firsts_length]; exact h)]
  simp [firsts, ofN]
theorem way_length (L : List Sym) (t : List Int) (k : Nat) (hk : k ≤ t.length) : (way L t k).length ≤ k := by
  induction k with
  | zero => simp [way, run]
  | succ k ih =>
    rw [way_succ (by omega)]
    have := pass_length (way L t k) (arN L (t[k]'(by omega)))
    have := ih (by omega)
    omega
def pathA (L : List Sym) (t : List Int) (a : Int) : List Int := if placeE L t a = 0 then firsts (way L t a.toNat) else []
/-- How deep the first k places stand. -/
def deepN (L : List Sym) (t : List Int) : Nat → Nat
  | 0 => 0
  | k + 1 => max (deepN L t k) ((way L t k).length + 1)
def depthA (L : List Sym) (t : List Int) : Int := if checkE L t = 0 then (deepN L t t.length : Int) else 0
theorem deepN_le (L : List Sym) (t : List Int) (k : Nat) (hk : k ≤ t.length) : deepN L t k ≤ k := by
  induction k with
  | zero => simp [deepN]
  | succ k ih =>
    have := way_length L t k (by omega)
    have := ih (by omega)
    simp [deepN]; omega
end Go.Proofs.Ythhcnllabhfejaa
/- The walk of the document's Path. -/
namespace Go.Proofs.Ythhcnllabhfejaa
set_option linter.unusedVariables false
open Go.RowKit
attribute [local go_sem ↓] Go.wp_at_zero Go.wp_at_succ
/-- What the inner loop of Path holds, when k arguments were looked at. -/
structure Sought (w wr : World) (ov : Value) (ao : Option Addr) (args : List Int) (out : List Int) : Prop where
  row : Row w.heap.size wr ov out
  at' : IntsAt wr ao args
  ne : ∀ a, ao = some a → ov.ownBlock ≠ some a.block
  lt : ∀ a, ao = some a → a.block < wr.heap.size
  s : Same0 w wr
theorem Sought.push {w wr w' : World} {ov : Value} {ao : Option Addr} {args out : List Int} {g cap : Nat} {x : Int} (h : Sought w wr ov ao args out) (hr : Row w.heap.size w' (.slice (some ⟨g, 0, none⟩) (out.length + 1) cap) (out ++ [x])) (hk : Kept (fun k => ov.ownBlock = some k) wr w') (hat : ov.ownBlock = some g ∨ wr.heap.size ≤ g) :
    Sought w w' (.slice (some ⟨g, 0, none⟩) (out.length + 1) cap) ao args (out ++ [x]) := by
  refine ⟨hr, h.at'.kept hk (fun a e => h.ne a e), ?_, fun a e => Nat.lt_of_lt_of_le (h.lt a e) hk.size, h.s.onto h.row hk⟩
  intro a e e'
  simp only [Value.ownBlock, Option.some.injEq] at e'
  rcases hat with e1 | e1
  · exact h.ne a e (by rw [e1, e'])
  · have := h.lt a e; omega
theorem firsts_cons (i a : Nat) (st : List (Nat × Nat)) : firsts ((i, a) :: st) = firsts st ++ [(i : Int)] := by simp [firsts, ofN]
end Go.Proofs.Ythhcnllabhfejaa
/- The walk of the document's Plain. -/
namespace Go.Proofs.Ythhcnllabhfejaa
set_option linter.unusedVariables false
open Go.RowKit
attribute [local go_sem ↓] Go.wp_at_zero Go.wp_at_succ
def negs (t : List Int) : List Int := (varsL t).map (fun v => -v)
theorem allV_snoc {ls : List (List Int)} {i : Nat} (hi : i < ls.length) : allV (ls.take (i + 1)) = allV (ls.take i) ++ negs ls[i] := by
  unfold allV
  rw [take_one hi, List.map_append, List.flatten_append]
  simp [negs]
theorem allV_le {ls : List (List Int)} (hn : ls.length ≤ 1048576) (h : ∀ t ∈ ls, t.length ≤ 1048576) (i : Nat) : (allV (ls.take i)).length ≤ 1100000000000 := by
  have h1 := flat_le (ls := (ls.take i).map negs) (B := 1048576) (fun t ht => by
    obtain ⟨x, hx, rfl⟩ := List.mem_map.1 ht
    have h1 := vs_len [] x
    have h2 := h x (List.mem_of_mem_take hx)
    simp [negs, varsL] at h1 ⊢; omega)
  have e : allV (ls.take i) = ((ls.take i).map negs).flatten := rfl
  rw [e]
  have h2 : ((ls.take i).map negs).length ≤ 1048576 := by simp; omega
  have h3 : ((ls.take i).map negs).length * 1048576 ≤ 1048576 * 1048576 := Nat.mul_le_mul_right _ h2
  omega
/-- Lists told: their blocks lie from base on. -/
def OutAt (base : Nat) (w : World) (ov : Value) (xss : List (List Int)) : Prop := ∃ cs, w.ownsRow base 25 1 ov xss.length cs ∧ ∀ j (h : j < xss.length), ∃ v, cs[j]? = some v ∧ Row base w v xss[j] ∧ ∀ k, v.ownBlock = some k → ov.ownBlock ≠ some k
theorem OutAt.same {base : Nat} {w w' : World} {ov : Value} {xss : List (List Int)} (h : OutAt base w ov xss) (k : Same0 w w') : OutAt base w' ov xss := by
  obtain ⟨cs, h1, h2⟩ := h
  refine ⟨cs, Kept.row k h1 (fun _ _ f => f), fun j hj => ?_⟩
  obtain ⟨v, g1, g2, g3⟩ := h2 j hj
  exact ⟨v, g1, Kept.row k g2 (fun _ _ f => f), g3⟩
theorem OutAt.nil (base : Nat) (w : World) : OutAt base w (.slice none 0 0) [] := ⟨[], World.ownsRow_nil _ _ _ _, fun j hj => by simp at hj⟩
theorem OutAt.keep {base : Nat} {w w' : World} {ov : Value} {xss : List (List Int)} {S : Nat → Prop} (h : OutAt base w ov xss) (k : Kept S w w') (hn : ∀ k, base ≤ k → ¬ S k) : OutAt base w' ov xss := by
  obtain ⟨cs, h1, h2⟩ := h
  refine ⟨cs, k.row h1 (fun k e => hn k (h1.lt k e).1), fun j hj => ?_⟩
  obtain ⟨v, g1, g2, g3⟩ := h2 j hj
  exact ⟨v, g1, k.row g2 (fun k e => hn k (g2.lt k e).1), g3⟩
theorem OutAt.put {base : Nat} {w0 w1 : World} {ov v : Value} {xss : List (List Int)} {t : List Int} {g cap : Nat} {cs : List Value} (h1 : w0.ownsRow base 25 1 ov xss.length cs) (h2 : ∀ j (h : j < xss.length), ∃ v, cs[j]? = some v ∧ Row base w0 v xss[j] ∧ ∀ k, v.ownBlock = some k → ov.ownBlock ≠ some k) (hr : Row base w0 v t) (hv : ∀ k, v.ownBlock = some k → ov.ownBlock ≠ some k)
    (hown : w1.ownsRow base 25 1 (.slice (some ⟨g, 0, none⟩) (xss.length + 1) cap) (xss.length + 1) (cs ++ [v])) (hk : Kept (fun k => ov.ownBlock = some k) w0 w1) (hat : ov.ownBlock = some g ∨ w0.heap.size ≤ g) : OutAt base w1 (.slice (some ⟨g, 0, none⟩) (xss.length + 1) cap) (xss ++ [t]) := by
  have hl : cs.length = xss.length := by have := h1.1; omega
  have new : ∀ u : Value, (∀ k, u.ownBlock = some k → ov.ownBlock ≠ some k) → (∀ k, u.ownBlock = some k → k < w0.heap.size) → ∀ k, u.ownBlock = some k → Value.ownBlock (.slice (some ⟨g, 0, none⟩) (xss.length + 1) cap) ≠ some k := by
    intro u a1 a2 k e e'
    simp only [Value.ownBlock, Option.some.injEq] at e'
    subst e'
    rcases hat with e2 | e2
    · exact a1 g e e2
    · have := a2 g e; omega
  refine ⟨cs ++ [v], by simpa using hown, fun j hj => ?_⟩
  by_cases e : j = xss.length
  · subst e
    refine ⟨v, by rw [List.getElem?_append_right (by omega)]; simp [hl], ?_, new v hv (fun k e => (hr.lt k e).2)⟩
    simpa using hk.row hr (fun k e e' => hv k e e')
  · have hj' : j < xss.length := by simp at hj; omega
    obtain ⟨u, g1, g2, g3⟩ := h2 j hj'
    refine ⟨u, by rw [List.getElem?_append_left (by omega)]; exact g1, ?_, new u g3 (fun k e => (g2.lt k e).2)⟩
    rw [List.getElem_append_left hj']
    exact hk.row g2 (fun k e e' => g3 k e e')
/-- The order, in plain words, at the inmost loop. -/
theorem order_hit {ls : List (List Int)} {x : Int} {m : Nat} (hm : m < (orderL ls).length) : (x = -((orderL ls)[m])) ↔ (isV x = true ∧ (orderL ls).idxOf (-x) = m) := by
  have hN := neat_vs neat_nil ls.flatten
  have hN' : Neat (orderL ls) := hN
  constructor
  · intro e
    have h1 := hN'.2 _ (List.getElem_mem hm)
    have e2 : -x = (orderL ls)[m] := by omega
    exact ⟨isV_iff.2 (by omega), by rw [e2]; exact idx_of hN'.1 hm⟩
  · rintro ⟨h1, h2⟩
    have h3 : (orderL ls).idxOf (-x) < (orderL ls).length := by omega
    have h4 := List.getElem_idxOf h3
    have : (orderL ls)[m] = -x := by
      have e5 : (orderL ls)[m] = (orderL ls)[(orderL ls).idxOf (-x)] := by congr 1; exact h2.symm
      rw [e5]; exact h4
    omega
/-- The number at a place, when m of the order were looked at. -/
def halfN (O : List Int) (x : Int) (m : Nat) : Int := if isV x = true ∧ O.idxOf (-x) < m then -((O.idxOf (-x) : Int) + 1) else x
theorem half_zero (O : List Int) (x : Int) : halfN O x 0 = x := by simp [halfN]
theorem half_hit {ls : List (List Int)} {x : Int} {m : Nat} (hm : m < (orderL ls).length) (h : x = -((orderL ls)[m])) : halfN (orderL ls) x (m + 1) = -((m : Int) + 1) := by
  obtain ⟨h1, h2⟩ := (order_hit hm).1 h
  rw [halfN, if_pos ⟨h1, by omega⟩, h2]
theorem half_miss {ls : List (List Int)} {x : Int} {m : Nat} (hm : m < (orderL ls).length) (h : ¬ x = -((orderL ls)[m])) : halfN (orderL ls) x (m + 1) = halfN (orderL ls) x m := by
  have h' := fun a => h ((order_hit hm).2 a)
  unfold halfN
  by_cases hv : isV x = true
  · have : (orderL ls).idxOf (-x) ≠ m := fun e => h' ⟨hv, e⟩
    by_cases c : (orderL ls).idxOf (-x) < m
    · rw [if_pos ⟨hv, by omega⟩, if_pos ⟨hv, c⟩]
    · rw [if_neg (by omega), if_neg (by omega)]
  · rw [if_neg (by simp [hv]), if_neg (by simp [hv])]
theorem half_end {ls : List (List Int)} {x : Int} {t : List Int} (ht : t ∈ ls) (hx : x ∈ t) : halfN (orderL ls) x (orderL ls).length = Proofs.Ythhcnllabhfejaa.pl (orderL ls) x := by
  unfold halfN Proofs.Ythhcnllabhfejaa.pl
  by_cases hv : isV x = true
  · have : -x ∈ orderL ls := vs_mem (List.mem_flatten.2 ⟨t, ht, hx⟩) hv
    rw [if_pos ⟨hv, List.idxOf_lt_length_of_mem this⟩, if_pos hv]
  · rw [if_neg (by simp [hv]), if_neg hv]
/-- append of numbers, nil or not, to a row of the call's own. -/
theorem wpList_more' {w0 : World} {ops : Array Oper} {rest : List Oper} {o : Oper} {a : Act} {Q : Exit → Act → World → Prop} (hgd : o.guard = none) (s x : Operand) (t : TypeId)
    (ho : o.op = .call { callee := .builtin .append, args := #[s, x], argTypes := #[t, t] }) (ht : Try.prog.underlying t = some (.slice 3))
    (base : Nat) (xs : List Int) (v : Value) (hs : a.eval s = v) (hr : Row base w0 v xs) (ys : List Int) (ao : Option Addr) (m c : Nat) (hx : a.eval x = .slice ao m c) (hm : m = ys.length) (hy : IntsAt w0 ao ys) (hnil : ao = none → ys.length = 0 ∧ c = 0) (hb : base ≤ w0.heap.size) (hsz : (xs.length + ys.length) * 8 ≤ 140737488355328)
    (h : ∀ v' w', Row base w' v' (xs ++ ys) → Kept (fun k => v.ownBlock = some k) w0 w' → wpList Try.prog ops Q rest (a.put o.dst v') w') :
    wpList Try.prog ops Q (o :: rest) a w0 := by
  cases ao with
  | none =>
    obtain ⟨h1, rfl⟩ := hnil rfl
    have : ys = [] := List.eq_nil_of_length_eq_zero h1
    subst this
    subst hm
    obtain ⟨i, hi, hz0, hz1, hz2⟩ := info_parts info_intT
    exact wpList_append_own_none hgd s x t ho base 3 i 1 ht hi v xs.length (iv xs) hs hr hx (h v w0 (by simpa using hr) (Kept.refl _ _))
  | some ad => exact wpList_more hgd s x t ho ht base xs v hs hr ys ad m c hx hm hy hb hsz h
set_option maxRecDepth 8000 in
set_option maxHeartbeats 8000000 in
theorem rplain_any {w : World} {lo : Option Addr} {lcap : Nat} {ls : List (List Int)} (hl : Lists w lo ls) (hn : ls.length ≤ 1048576) (hb : ∀ t ∈ ls, t.length ≤ 1048576) :
    Calls Try.prog 19 #[.slice lo ls.length lcap] w fun e w' => ∃ v, e = .returned v ∧ OutAt w.heap.size w' v (plains ls) ∧ Same0 w w' := by
  have HB : Hid (∀ t ∈ ls, t.length ≤ 1048576) := hb
  have HAL : Hid (∀ i, (allV (ls.take i)).length ≤ 1100000000000) := fun i => allV_le hn hb i
  clear hb
  go_enter Try.func19, Try.ntmps19
  go_wp2
  go_loopw [3, 4] (fun av iv' wr => ∃ i : Nat, i ≤ ls.length ∧ iv' = .int .i64 (i : Int) ∧ Row w.heap.size wr av (allV (ls.take i)) ∧ Same0 w wr) (fun _ iv' _ => ls.length - (intOf iv').toNat)
  case atStart => exact ⟨0, Nat.zero_le _, rfl, World.ownsRow_nil _ _ _ _, Kept.refl _ _⟩
  case round =>
    obtain ⟨i, hile, rfl, hr, hs⟩ := hrel
    obtain ⟨avo, avc, rfl⟩ := row_shape hr
    by_cases hlt : i < ls.length
    · obtain ⟨lb, loff, ao, cap, rfl, hlb, hlc, hia, hnil⟩ := (hl.same hs).get hlt
      have hti := HB.out ls[i] (List.getElem_mem hlt)
      have cV := rvars_any (cap := cap) hia (by omega)
      have E : Hid (allV (ls.take (i + 1)) = allV (ls.take i) ++ negs ls[i]) := allV_snoc hlt
      have hal := HAL.out i
      have hal1 := HAL.out (i + 1)
      rw [E.out, List.length_append] at hal1
      have HNT : Hid (Neat (varsL ls[i])) := neat_vs neat_nil ls[i]
      have hngl : (negs ls[i]).length = (varsL ls[i]).length := by simp [negs]
      have HNG : Hid (∀ k (hk : k < (varsL ls[i]).length), (negs ls[i]).take (k + 1) = (negs ls[i]).take k ++ [-((varsL ls[i])[k])]) := fun k hk => by
        rw [take_one (by rw [hngl]; exact hk)]; simp [negs]
      have i1 : (0 : Int) ≤ (i : Int) := by omega
      have i2 : (i : Int) < (ls.length : Int) := by omega
      clear hia hnil
      go_wp2_with fail
      refine cV.mono ?_
      rintro e w2 ⟨vv, rfl, rvv, k2⟩
      obtain ⟨vo, vcap, rfl, ivv, _, hvb⟩ := rvv.ints
      have S0 : Sought w w2 (.slice avo (allV (ls.take i)).length avc) vo (varsL ls[i]) (allV (ls.take i)) := by
        refine ⟨Kept.row k2 hr (fun _ _ f => f), ivv, ?_, fun a e => (hvb a e).2, hs.trans' k2⟩
        intro a e e'
        have := (hr.lt _ e').2
        have := (hvb a e).1
        omega
      clear cV rvv ivv hvb hr k2
      generalize hAI : allV (ls.take i) = AI at *
      generalize hVI : varsL ls[i] = VI at *
      generalize hNI : negs ls[i] = NI at *
      go_wp2
      obtain ⟨wo, rfl⟩ : ∃ wo : World, wo = wr := ⟨_, rfl⟩
      go_loopw [3, 6] (fun av kv wr => ∃ k : Nat, k ≤ VI.length ∧ kv = .int .i64 (k : Int) ∧ Sought w wr av vo VI (AI ++ NI.take k)) (fun _ kv _ => VI.length - (intOf kv).toNat)
      case atStart => exact ⟨0, Nat.zero_le _, rfl, by simpa using S0⟩
      case round =>
        clear S0
        obtain ⟨k, hkle, rfl, hS⟩ := hrel
        obtain ⟨bvo, bvc, rfl⟩ := row_shape hS.row
        by_cases hkl : k < VI.length
        · obtain ⟨vb, voff, rfl, _, hvc⟩ := hS.at'.get hkl
          have hnt := HNT.out.2 VI[k] (List.getElem_mem hkl)
          have E2 := HNG.out k hkl
          have hrow := hS.row
          have hss := hS.s.size
          have hll : (AI ++ NI.take k).length ≤ 1100000000000 := by simp; omega
          have hb8 : ((AI ++ NI.take k).length + 1) * 8 ≤ 140737488355328 := by omega
          have E3 : Hid (AI ++ NI.take (k + 1) = (AI ++ NI.take k) ++ [-VI[k]]) := by show _ = _; rw [E2, List.append_assoc]
          have m0 : (0 : Int) ≤ (k : Int) := by omega
          have m1 : (k : Int) < (VI.length : Int) := by omega
          clear E2
          generalize hZZ : AI ++ NI.take k = ZZ at *
          generalize VI[k] = x at *
          go_wp2_with (first | (at_builtin; refine wpList_push rfl _ _ 25 rfl Try.underlying25 w.heap.size ZZ (.slice bvo ZZ.length bvc) rfl hrow (-x) rfl hss hb8 ?_; intro g gcap w4 hr4 hk4 hat4; have hS4 := hS.push hr4 hk4 hat4))
          rw [← E3.out] at hS4
          go_roundw
          case rel => first | exact ⟨k + 1, by omega, by go_num, hS4⟩ | ((repeat apply Exists.intro); exact ⟨⟨k + 1, by omega, by go_num, hS4⟩, rfl⟩)
          case measure => simp [intOf]; omega
        · have hrw := hS.row
          have hss := hS.s
          have e0 : NI.take k = NI := List.take_of_length_le (by omega)
          rw [e0] at hrw ⊢
          have E4 := E.out
          rw [← E4] at hrw ⊢
          clear hS e0 E4
          go_wp2
          go_roundw
          case rel => first | exact ⟨i + 1, by omega, by go_num, hrw, hss⟩ | ((repeat apply Exists.intro); exact ⟨⟨i + 1, by omega, by go_num, hrw, hss⟩, rfl⟩)
          case measure => simp [intOf]; omega
    · obtain rfl : i = ls.length := by omega
      rw [List.take_length] at hr ⊢
      have hal := HAL.out ls.length
      rw [List.take_length] at hal
      obtain ⟨avo', avc', hvv, iav, _, _⟩ := hr.ints
      simp only [Value.slice.injEq, true_and] at hvv
      obtain ⟨rfl, rfl⟩ := hvv
      have cO := rvars_any (cap := avc) iav (by omega)
      rw [order_all] at cO
      clear iav hr HAL
      go_wp2_with fail
      refine cO.mono ?_
      rintro e w5 ⟨ov, rfl, rO, k5⟩
      obtain ⟨oo, ocap, rfl, iO, _, _⟩ := rO.ints
      have hs5 := hs.trans' k5
      clear cO rO k5
      obtain ⟨O, hO⟩ : ∃ O, O = orderL ls := ⟨_, rfl⟩
      have HO : Hid (O = orderL ls) := hO
      have hOl : O.length ≤ 1100000000000 := by
        have h1 := vs_len [] ls.flatten
        have h2 := flat_le (ls := ls) (B := 1048576) HB.out
        have h3 : ls.length * 1048576 ≤ 1048576 * 1048576 := Nat.mul_le_mul_right _ hn
        rw [hO]; unfold orderL; simp only [List.length_nil, Nat.zero_add] at h1; omega
      rw [← hO] at iO ⊢
      clear hO
      go_wp2
      go_loopw [8, 9] (fun ov iv' wr => ∃ i : Nat, i ≤ ls.length ∧ iv' = .int .i64 (i : Int) ∧ OutAt w5.heap.size wr ov ((plains ls).take i) ∧ Same0 w5 wr) (fun _ iv' _ => ls.length - (intOf iv').toNat)
      case atStart => exact ⟨0, Nat.zero_le _, rfl, by simpa using OutAt.nil _ _, Kept.refl _ _⟩
      case round =>
        rename World => wold
        obtain ⟨i, hile, rfl, hOA, hs6⟩ := hrel
        rename World => wr0
        have hs06 := hs5.trans' hs6
        by_cases hlt2 : i < ls.length
        · obtain ⟨lb, loff, ao, cap, rfl, hlb, hlc, hia, hnil⟩ := (hl.same hs06).get hlt2
          have hti := HB.out ls[i] (List.getElem_mem hlt2)
          have hdl : ((plains ls).take i).length = i := by rw [List.length_take, plains_length]; omega
          have hur : ∃ uo ucap, u8 = .slice uo i ucap := by
            obtain ⟨cs, h1, _⟩ := hOA
            rw [hdl] at h1
            exact row_shape h1
          obtain ⟨uo, ucap, rfl⟩ := hur
          have HGET : Hid ((plains ls).take (i + 1) = (plains ls).take i ++ [curL O ls[i] ls[i].length]) := by rw [HO.out]; exact plains_get hlt2
          have HEND : Hid (∀ x ∈ ls[i], halfN O x O.length = pl O x) := fun x hx => by rw [HO.out]; exact half_end (List.getElem_mem hlt2) hx
          have HHIT : Hid (∀ x m (hm : m < O.length), x = -(O[m]) → halfN O x (m + 1) = -((m : Int) + 1)) := by rw [HO.out]; exact fun x m hm h => half_hit hm h
          have HMISS : Hid (∀ x m (hm : m < O.length), ¬ x = -(O[m]) → halfN O x (m + 1) = halfN O x m) := by rw [HO.out]; exact fun x m hm h => half_miss hm h
          have k0 : Same0 wr0 (wr0.alloc (.cells #[] 3)) := (Kept.refl _ _).alloc _
          have r0 : Row wr0.heap.size (wr0.alloc (.cells #[] 3)) (.slice (some ⟨wr0.heap.size, 0, none⟩) 0 0) [] := row_empty wr0 _ (Nat.le_refl _) rfl
          have ia0 := hia.same k0
          have z0 := k0.size
          have i1 : (0 : Int) ≤ (i : Int) := by omega
          have i2 : (i : Int) < (ls.length : Int) := by omega
          generalize (plains ls).take i = done at *
          generalize hT : ls[i] = t at *
          go_upto_region 16 with (first | (at_builtin; refine wpList_more' rfl (.tmp 46) (.tmp 50) 25 rfl Try.underlying25 wr0.heap.size [] _ rfl r0 t _ _ _ rfl rfl ia0 hnil z0 (by simp; omega) ?_; intro v1 w1 hr1 hk1))
          rw [List.nil_append] at hr1
          have s1 := k0.onto r0 hk1
          obtain ⟨to', tcap, rfl⟩ := row_shape hr1
          rw [show t = curL O t 0 by rw [curL_zero]] at hr1
          rw [curL_length O t 0 (Nat.zero_le _)] at hr1
          have HNO : Hid (Neat O) := by rw [HO.out]; exact neat_vs neat_nil ls.flatten
          have HIO : Hid (∀ wr, Same0 wr0 wr → IntsAt wr oo O) := fun wr k => (iO.same hs6).same k
          have HIA : Hid (∀ wr, Same0 wr0 wr → IntsAt wr ao t ∧ wr.cell? ⟨lb, loff + i, none⟩ = some (.slice ao t.length cap)) := fun wr k => ⟨hia.same k, (k.cell (p := ⟨lb, loff + i, none⟩) hlb (fun f => f)).trans hlc⟩
          clear r0 ia0 hk1 z0 k0
          go_wp2
          go_loopw [11] (fun kv wr => ∃ k : Nat, k ≤ t.length ∧ kv = .int .i64 (k : Int) ∧ Row wr0.heap.size wr (.slice to' t.length tcap) (curL O t k) ∧ Same0 wr0 wr) (fun kv _ => t.length - (intOf kv).toNat)
          case atStart => exact ⟨0, Nat.zero_le _, rfl, by unfold Row; rw [curL_length O t 0 (Nat.zero_le _)]; exact hr1, s1⟩
          case round =>
            clear hr1 s1
            obtain ⟨k, hkle, rfl, hrk, hsk⟩ := hrel
            rename World => wk
            have cl := curL_length O t k hkle
            by_cases hkl : k < t.length
            · have CG := curL_get (O := O) hkl
              have CN : Hid ((curL O t k).set k (pl O t[k]) = curL O t (k + 1)) := curL_next hkl
              have C0 : Hid ((curL O t k).set k (halfN O t[k] 0) = curL O t k) := by show _ = _; rw [half_zero, ← CG]; exact List.set_getElem_self _
              have hend := HEND.out t[k] (List.getElem_mem hkl)
              have CE : Hid ((curL O t k).set k (halfN O t[k] O.length) = curL O t (k + 1)) := by show _ = _; rw [hend]; exact CN.out
              have R0 : Row wr0.heap.size wk (.slice to' t.length tcap) ((curL O t k).set k (halfN O t[k] 0)) := by rw [C0.out]; exact hrk
              have j1 : (0 : Int) ≤ (k : Int) := by omega
              have j2 : (k : Int) < (t.length : Int) := by omega
              clear hrk CG hend CN C0
              generalize hC : curL O t k = C at *
              go_wp2
              go_loopw [12] (fun nv wr => ∃ m : Nat, m ≤ O.length ∧ nv = .int .i64 (m : Int) ∧ Row wr0.heap.size wr (.slice to' t.length tcap) (C.set k (halfN O t[k] m)) ∧ Same0 wr0 wr) (fun nv _ => O.length - (intOf nv).toNat)
              case atStart => exact ⟨0, Nat.zero_le _, rfl, R0, hsk⟩
              case round =>
                clear R0
                obtain ⟨m, hmle, rfl, hrm, hsm⟩ := hrel
                rename World => wm
                by_cases hml : m < O.length
                · obtain ⟨ob, ooff, rfl, _, hoc⟩ := (HIO.out wm hsm).get hml
                  obtain ⟨hiam, hlcm⟩ := HIA.out wm hsm
                  obtain ⟨ab, aoff, rfl, _, hac⟩ := hiam.get hkl
                  have hno := HNO.out.2 O[m] (List.getElem_mem hml)
                  have hhit := HHIT.out t[k] m hml
                  have hmiss := HMISS.out t[k] m hml
                  have n1 : (0 : Int) ≤ (m : Int) := by omega
                  have n2 : (m : Int) < (O.length : Int) := by omega
                  have hl2 : ∀ y, (C.set k y).length = t.length := fun y => by rw [List.length_set]; exact cl
                  have hrm' := hrm
                  unfold Row at hrm'
                  rw [hl2] at hrm'
                  obtain ⟨tb, tc', hv', htb, htl⟩ := hrm'.form (by omega)
                  simp only [Value.slice.injEq, true_and] at hv'
                  obtain ⟨rfl, rfl⟩ := hv'
                  by_cases hq : t[k] = -O[m]
                  · have e1 := hhit hq
                    obtain ⟨old, y1, y2⟩ := row_put hrm' hkl
                    have hst := (hrm'.stored k (.int .i64 (-((m : Int) + 1)))).1
                    have e2 : (iv (C.set k (halfN O t[k] m))).set k (.int .i64 (-((m : Int) + 1))) = iv (C.set k (halfN O t[k] (m + 1))) := by
                      rw [e1]; simp [iv, List.map_set]
                    rw [e2] at hst
                    have hstR : Row wr0.heap.size (wm.setCell ⟨tb, k, none⟩ (.int .i64 (-((m : Int) + 1)))) (.slice (some ⟨tb, 0, none⟩) t.length tcap) (C.set k (halfN O t[k] (m + 1))) := by unfold Row; rw [hl2]; exact hst
                    have hsS : Same0 wr0 (wm.setCell ⟨tb, k, none⟩ (.int .i64 (-((m : Int) + 1)))) := hsm.own htb _
                    have hqb : (t[k] == -O[m]) = true := by rw [beq_iff_eq]; exact hq
                    clear hhit hmiss e1 e2 hst hrm hrm' hl2 hiam
                    generalize O[m] = om at *
                    generalize t[k] = x at *
                    go_wp2
                    go_quiet (fail)
                    go_wp2
                    have hRd := Kept.row ((Kept.refl _ _).drewN nq : Same0 _ _) hstR (fun _ _ f => f)
                    have hSd := hsS.drewN nq
                    go_roundw
                    case rel => first | exact ⟨m + 1, by omega, by go_num, hRd, hSd⟩ | ((repeat apply Exists.intro); exact ⟨⟨m + 1, by omega, by go_num, hRd, hSd⟩, rfl⟩)
                    case measure => simp [intOf]; omega
                  · have e1 := hmiss hq
                    rw [← e1] at hrm
                    have hqb : (t[k] == -O[m]) = false := by simpa using hq
                    clear hhit hmiss e1 hrm' hl2 hiam
                    generalize hZ : C.set k (halfN O t[k] (m + 1)) = Z at *
                    generalize O[m] = om at *
                    generalize t[k] = x at *
                    go_wp2
                    go_quiet (fail)
                    go_wp2
                    have hRd := Kept.row ((Kept.refl _ _).drewN nq : Same0 _ _) hrm (fun _ _ f => f)
                    have hSd := hsm.drewN nq
                    rw [← hZ] at hRd
                    go_roundw
                    case rel => first | exact ⟨m + 1, by omega, by go_num, hRd, hSd⟩ | ((repeat apply Exists.intro); exact ⟨⟨m + 1, by omega, by go_num, hRd, hSd⟩, rfl⟩)
                    case measure => simp [intOf]; omega
                · obtain rfl : m = O.length := by omega
                  rw [CE.out] at hrm
                  go_wp2
                  go_roundw
                  case rel => first | exact ⟨k + 1, by omega, by go_num, hrm, hsm⟩ | ((repeat apply Exists.intro); exact ⟨⟨k + 1, by omega, by go_num, hrm, hsm⟩, rfl⟩)
                  case measure => simp [intOf]; omega
            · obtain rfl : k = t.length := by omega
              obtain ⟨cs, h1, h2⟩ := hOA.same hsk
              have zz := hs6.size
              have zk := hsk.size
              have hub : ∀ k, Value.ownBlock (.slice uo i ucap) = some k → k < wr0.heap.size := fun k e => by obtain ⟨cs', g1, _⟩ := hOA; exact (g1.lt k e).2
              have htb : ∀ k, Value.ownBlock (.slice to' t.length tcap) = some k → Value.ownBlock (.slice uo i ucap) ≠ some k := fun k e e' => by have := (hrk.lt k e).1; have := hub k e'; omega
              have hrB : Row w5.heap.size wk (.slice to' t.length tcap) (curL O t t.length) := row_mono hrk zz
              obtain ⟨j0, hj0, hz0, hz1, hz2⟩ := info_parts info_term
              rw [hdl] at h1
              have b1 : i + 1 ≤ maxLen := by unfold maxLen; omega
              have b2 : (i + 1) * 24 ≤ 140737488355328 := by omega
              have b3 : w5.heap.size ≤ (wk.alloc (.cells #[.slice to' t.length tcap] 25)).heap.size := by simp; omega
              clear HIO HIA HEND HHIT HMISS
              go_wp2_with (first | (at_builtin; refine wpList_append_lies _ rfl (.tmp 83) (.tmp 85) 44 rfl w5.heap.size 25 j0 _ 1 24 Try.underlying44 hj0 hz0 hz1 hz2 rfl (by omega) (.slice uo i ucap) i cs rfl (h1.alloc _) ⟨wk.heap.size, 0, none⟩ 1 1 [.slice to' t.length tcap] rfl rfl (cell_one_new _ _ _) (by simp [Value.oneCell']) (by omega) b1 b2 b3 (wk.heap.size + 1) (by simp) ?_; intro gg gcap w9 hown hgrow hat hglt))
              have kk : Kept (fun k => Value.ownBlock (.slice uo i ucap) = some k) wk w9 := Kept.grown (Kept.alloc (Kept.refl _ wk) _) hgrow (fun _ e _ => e)
              have hOut : OutAt w5.heap.size w9 (.slice (some ⟨gg, 0, none⟩) (done.length + 1) gcap) (done ++ [curL O t t.length]) := OutAt.put (by rw [hdl]; exact h1) h2 hrB htb (by rw [hdl]; exact hown) kk (hat.imp id (fun e => by omega))
              rw [hdl, ← HGET.out] at hOut
              have hs9 : Same0 w5 w9 := Kept.trans (hs6.trans' hsk) kk (fun j hj e => by obtain ⟨cs', g1, _⟩ := hOA; have := (g1.lt j e).1; omega)
              go_roundw
              case rel => first | exact ⟨i + 1, by omega, by go_num, hOut, hs9⟩ | ((repeat apply Exists.intro); exact ⟨⟨i + 1, by omega, by go_num, hOut, hs9⟩, rfl⟩)
              case measure => simp [intOf]; omega
        · obtain rfl : i = ls.length := by omega
          rw [List.take_of_length_le (by rw [plains_length]; exact Nat.le_refl _)] at hOA
          have hfin : OutAt w.heap.size wr0 u8 (plains ls) := by
            obtain ⟨cs, h1, h2⟩ := hOA
            refine ⟨cs, row_mono h1 hs5.size, fun j hj => ?_⟩
            obtain ⟨v, g1, g2, g3⟩ := h2 j hj
            exact ⟨v, g1, row_mono g2 hs5.size, g3⟩
          obtain ⟨cs, h1, _⟩ := hOA
          obtain ⟨uo, ucap, rfl⟩ := row_shape h1
          go_wp2
          go_ret
          exact ⟨_, rfl, hfin, hs06⟩
end Go.Proofs.Ythhcnllabhfejaa
