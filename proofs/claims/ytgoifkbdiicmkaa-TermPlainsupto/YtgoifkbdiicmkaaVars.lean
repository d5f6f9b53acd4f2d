/- The walks of Variables: the document's and the program's. -/
import Derived.Test.YtgoifkbdiicmkaaPlainsPlain
import Derived.Test.YtgoifkbdiicmkaaRefTerm
namespace Go.Proofs.Ytgoifkbdiicmkaa
set_option linter.unusedVariables false
open Go.RowKit
attribute [local go_sem ↓] Go.wp_at_zero Go.wp_at_succ
set_option maxHeartbeats 1000000 in
theorem rIsV_any (x : Int) (w : World) : Calls Try.prog 49 #[.int .i64 x] w fun e w' => e = .returned (.bool (isV x)) ∧ w' = w := by
  by_cases h1 : x < 0
  · by_cases h2 : -99 ≤ x
    · have H : Hid (isV x = true) := by show _ = _; simp [isV]; omega
      go_enter Try.func49, Try.ntmps49
      go_wp2
      go_ret
      exact ⟨by rw [H.out]; rfl, rfl⟩
    · have H : Hid (isV x = false) := by show _ = _; simp [isV]; omega
      go_enter Try.func49, Try.ntmps49
      go_wp2
      go_ret
      exact ⟨by rw [H.out]; rfl, rfl⟩
  · have H : Hid (isV x = false) := by show _ = _; simp [isV]; omega
    go_enter Try.func49, Try.ntmps49
    go_wp2
    go_ret
    exact ⟨by rw [H.out]; rfl, rfl⟩
def inB (l : List Int) (n : Int) : Bool := decide (n ∈ l)
set_option maxHeartbeats 1000000 in
theorem rIn_any {w : World} {ao : Option Addr} {cap : Nat} {l : List Int} (hl : IntsAt w ao l) (n : Int) (hm : l.length ≤ maxLen) : Calls Try.prog 50 #[.slice ao l.length cap, .int .i64 n] w fun e w' => e = .returned (.bool (inB l n)) ∧ w' = w := by
  unfold maxLen at hm
  go_enter Try.func50, Try.ntmps50
  go_wp2
  go_loop [5] (fun i => ∃ k : Nat, k ≤ l.length ∧ i = .int .i64 (k : Int) ∧ Hid (¬ n ∈ l.take k)) (fun i => l.length - (intOf i).toNat)
  case atStart => exact ⟨0, Nat.zero_le _, rfl, by simp [Hid]⟩
  case round =>
    obtain ⟨k, hk, rfl, hn⟩ := hrel
    by_cases hlt : k < l.length
    · obtain ⟨b, off, rfl, _, hc⟩ := hl.get hlt
      have i1 : (0 : Int) ≤ (k : Int) := by omega
      have i2 : (k : Int) < (l.length : Int) := by omega
      by_cases he : l[k] = n
      · have H : Hid (inB l n = true) := by show _ = _; simp [inB]; rw [← he]; exact List.getElem_mem hlt
        have he' : (l[k] == n) = true := by simpa using he
        go_wp2
        go_ret
        exact ⟨by rw [H.out]; rfl, rfl⟩
      · have he' : (l[k] == n) = false := by simpa using he
        have hn' : Hid (¬ n ∈ l.take (k + 1)) := by
          rw [List.take_add_one, List.getElem?_eq_getElem hlt]
          intro hh
          rcases List.mem_append.1 hh with hh | hh
          · exact hn.out hh
          · simp at hh; exact he hh.symm
        go_wp2
        exact ⟨⟨k + 1, by omega, by go_num, hn'⟩, by simp [intOf]; omega⟩
    · have H : Hid (inB l n = false) := by
        have := hn.out
        rw [List.take_of_length_le (by omega)] at this
        show _ = _; simpa [inB] using this
      go_wp2
      go_ret
      exact ⟨by rw [H.out]; rfl, rfl⟩
theorem vstep_yes {o : List Int} {x : Int} (h1 : isV x = true) (h2 : inB o (-x) = false) : vstep o x = o ++ [-x] := by
  rw [vstep, if_pos ⟨h1, by simpa [inB] using h2⟩]
theorem vstep_in {o : List Int} {x : Int} (h2 : inB o (-x) = true) : vstep o x = o := by
  rw [vstep, if_neg (by simp [inB] at h2; simp [h2])]
theorem vstep_no {o : List Int} {x : Int} (h1 : isV x = false) : vstep o x = o := by
  rw [vstep, if_neg (by simp [h1])]
set_option maxHeartbeats 2000000 in
theorem rvars_any {w : World} {ao : Option Addr} {cap : Nat} {t : List Int} (ht : IntsAt w ao t) (hm : t.length * 8 ≤ 140737488351232) :
    Calls Try.prog 35 #[.slice ao t.length cap] w fun e w' => ∃ v, e = .returned v ∧ Row w.heap.size w' v (varsL t) ∧ Same0 w w' := by
  go_enter Try.func35, Try.ntmps35
  go_wp2
  go_loopw [3, 4] (fun ov i wr => ∃ k : Nat, k ≤ t.length ∧ i = .int .i64 (k : Int) ∧ Row w.heap.size wr ov (varsL (t.take k)) ∧ Same0 w wr) (fun _ i _ => t.length - (intOf i).toNat)
  case atStart => exact ⟨0, Nat.zero_le _, rfl, World.ownsRow_nil _ _ _ _, Kept.refl _ _⟩
  case round =>
    obtain ⟨k, hk, rfl, hr, hs⟩ := hrel
    obtain ⟨oo, ocap, rfl⟩ := row_shape hr
    by_cases hlt : k < t.length
    · obtain ⟨b, off, rfl, _, hc⟩ := (ht.same hs).get hlt
      have i1 : (0 : Int) ≤ (k : Int) := by omega
      have i2 : (k : Int) < (t.length : Int) := by omega
      have E : Hid (varsL (t.take (k + 1)) = vstep (varsL (t.take k)) t[k]) := vs_take hlt
      have hl := vs_len [] (t.take k)
      have hl2 : (varsL (t.take k)).length ≤ t.length := by simp at hl; unfold varsL; omega
      have cV := fun w' => rIsV_any t[k] w'
      clear hl
      generalize hO : varsL (t.take k) = O at *
      generalize hX : t[k] = x at *
      cases hv : isV x with
      | false =>
        have E1 : Hid (varsL (t.take (k + 1)) = O) := by rw [E.out]; exact vstep_no hv
        rw [← E1.out] at hr
        simp only [hv] at cV
        have hlE := congrArg List.length E1.out
        rw [← hlE]
        clear hlE
        go_wp2_with (first | (go_at_call 49; refine (cV _).mono ?_; rintro e wr ⟨rfl, rfl⟩))
        go_roundw
        case rel => first | exact ⟨k + 1, by omega, by go_num, hr, hs⟩ | ((repeat apply Exists.intro); exact ⟨⟨k + 1, by omega, by go_num, hr, hs⟩, rfl⟩)
        case measure => simp [intOf]; omega
      | true =>
        simp only [hv] at cV
        have hx := isV_iff.1 hv
        obtain ⟨oo', ocap', hvv, io, _, _⟩ := hr.ints
        simp only [Value.slice.injEq, true_and] at hvv
        obtain ⟨rfl, rfl⟩ := hvv
        have cI := rIn_any (cap := ocap) io (-x) (by unfold maxLen; omega)
        cases hin : inB O (-x) with
        | true =>
          have E1 : Hid (varsL (t.take (k + 1)) = O) := by rw [E.out]; exact vstep_in hin
          rw [hin] at cI
          go_wp2_with (first | (go_at_call 49; refine (cV _).mono ?_; rintro e wr ⟨rfl, rfl⟩) | (go_at_call 50; refine cI.mono ?_; rintro e wr ⟨rfl, rfl⟩))
          rw [← E1.out] at hr
          have hrE : Row w.heap.size wr (.slice oo O.length ocap) (varsL (t.take (k + 1))) := by rw [E1.out] at hr ⊢; exact hr
          exact ⟨⟨k + 1, by omega, by go_num, hrE, hs⟩, by simp [intOf]; omega⟩
        | false =>
          have E1 : Hid (varsL (t.take (k + 1)) = O ++ [-x]) := by rw [E.out]; exact vstep_yes hv hin
          rw [hin] at cI
          have hb8 : (O.length + 1) * 8 ≤ 140737488355328 := by omega
          have hss := hs.size
          go_wp2_with (first | (go_at_call 49; refine (cV _).mono ?_; rintro e wr ⟨rfl, rfl⟩) | (go_at_call 50; refine cI.mono ?_; rintro e wr ⟨rfl, rfl⟩) | (at_builtin; refine wpList_push rfl _ _ 24 rfl Try.underlying24 w.heap.size O _ rfl hr (-x) rfl hss hb8 ?_; intro g gcap w4 hr4 hk4 _; have hs4 := hs.onto hr hk4))
          rw [← E1.out] at hr4
          go_roundw
          case rel => first | exact ⟨k + 1, by omega, by go_num, hr4, hs4⟩ | ((repeat apply Exists.intro); exact ⟨⟨k + 1, by omega, by go_num, hr4, hs4⟩, rfl⟩)
          case measure => simp [intOf]; omega
    · obtain rfl : k = t.length := by omega
      rw [List.take_length] at hr
      go_wp2
      go_ret
      refine ⟨_, rfl, ?_, hs⟩
      simpa using hr
theorem zeros_bool : Try.zeroCells79 = Array.replicate 100 (.bool false) := by kernel_rfl
/-- Which variables were met. -/
def MetAt (w : World) (A : Nat) (o : List Int) : Prop := ∃ cs, w.heap[A]? = some (.cells cs 79 (0, 0)) ∧ cs.size = 100 ∧ ∀ v : Nat, 1 ≤ v → v ≤ 99 → cs[v]? = some (.bool (inB o (v : Int)))
theorem met_new (w : World) : MetAt (w.alloc (.cells Try.zeroCells79 79)) w.heap.size [] := by
  refine ⟨_, heap_alloc_new w _, by rw [zeros_bool]; simp, fun v h1 h2 => ?_⟩
  rw [zeros_bool, Array.getElem?_replicate, if_pos (by omega)]
  simp [inB]
theorem MetAt.kept {w w' : World} {A : Nat} {o : List Int} {S : Nat → Prop} (h : MetAt w A o) (hk : Kept S w w') (hn : ¬ S A) : MetAt w' A o := by
  obtain ⟨cs, h1, h2⟩ := h
  exact ⟨cs, hk.at h1 hn, h2⟩
theorem MetAt.cell {w : World} {A : Nat} {o : List Int} (h : MetAt w A o) {v : Nat} (h1 : 1 ≤ v) (h2 : v ≤ 99) : w.cell? ⟨A, v, none⟩ = some (.bool (inB o (v : Int))) ∧ w.frozen? ⟨A, v, none⟩ = false := by
  obtain ⟨cs, q1, q2, q3⟩ := h
  exact ⟨(cellAt q1 v).trans (q3 v h1 h2), frozenAt q1 v⟩
theorem MetAt.set {w : World} {A : Nat} {o : List Int} (h : MetAt w A o) {v : Nat} (h1 : 1 ≤ v) (h2 : v ≤ 99) : MetAt (w.setCell ⟨A, v, none⟩ (.bool true)) A (o ++ [(v : Int)]) := by
  obtain ⟨cs, q1, q2, q3⟩ := h
  refine ⟨_, setAt q1 v _, by simpa using q2, fun u g1 g2 => ?_⟩
  rw [Array.getElem?_setIfInBounds]
  by_cases e : v = u
  · subst e; rw [if_pos rfl, if_pos (by omega)]; simp [inB]
  · rw [if_neg e, q3 u g1 g2]
    congr 2
    simp [inB]; omega
set_option maxHeartbeats 4000000 in
theorem tvars_any {w : World} {ao : Option Addr} {cap : Nat} {t : List Int} (ht : IntsAt w ao t) (hm : t.length * 8 ≤ 140737488351232) :
    Calls Try.prog 34 #[.slice ao t.length cap] w fun e w' => ∃ v, e = .returned v ∧ Row w.heap.size w' v (varsL t) ∧ Same0 w w' := by
  have M0 := met_new w
  have K0 : Same0 w (w.alloc (.cells Try.zeroCells79 79)) := (Kept.refl _ w).alloc _
  go_enter Try.func34, Try.ntmps34
  go_wp2
  go_loopw [4, 9] (fun ov i wr => ∃ k : Nat, k ≤ t.length ∧ i = .int .i64 (k : Int) ∧ Row w.heap.size wr ov (varsL (t.take k)) ∧ MetAt wr w.heap.size (varsL (t.take k)) ∧ ov.ownBlock ≠ some w.heap.size ∧ Same0 w wr) (fun _ i _ => t.length - (intOf i).toNat)
  case atStart => exact ⟨0, Nat.zero_le _, rfl, World.ownsRow_nil _ _ _ _, M0, by simp [Value.ownBlock], K0⟩
  case round =>
    clear M0 K0
    obtain ⟨k, hk, rfl, hr, hM, hne, hs⟩ := hrel
    obtain ⟨oo, ocap, rfl⟩ := row_shape hr
    by_cases hlt : k < t.length
    · obtain ⟨b, off, rfl, _, hc⟩ := (ht.same hs).get hlt
      have i1 : (0 : Int) ≤ (k : Int) := by omega
      have i2 : (k : Int) < (t.length : Int) := by omega
      have E : Hid (varsL (t.take (k + 1)) = vstep (varsL (t.take k)) t[k]) := vs_take hlt
      have hl := vs_len [] (t.take k)
      have hl2 : (varsL (t.take k)).length ≤ t.length := by simp at hl; unfold varsL; omega
      have cV := fun w' => isVariable_any t[k] w'
      clear hl
      generalize hO : varsL (t.take k) = O at *
      generalize hX : t[k] = x at *
      cases hv : isV x with
      | false =>
        have E1 : Hid (varsL (t.take (k + 1)) = O) := by rw [E.out]; exact vstep_no hv
        simp only [hv] at cV
        go_wp2_with (first | (go_at_call 48; refine (cV _).mono ?_; rintro e wr ⟨rfl, rfl⟩))
        have hrE : Row w.heap.size wr (.slice oo O.length ocap) (varsL (t.take (k + 1))) := by rw [E1.out]; exact hr
        have hME : MetAt wr w.heap.size (varsL (t.take (k + 1))) := by rw [E1.out]; exact hM
        exact ⟨⟨k + 1, by omega, by go_num, hrE, hME, hne, hs⟩, by simp [intOf]; omega⟩
      | true =>
        simp only [hv] at cV
        have hx := isV_iff.1 hv
        obtain ⟨v, rfl⟩ : ∃ v : Nat, x = -(v : Int) := ⟨(-x).toNat, by omega⟩
        have hv1 : 1 ≤ v := by omega
        have hv2 : v ≤ 99 := by omega
        obtain ⟨q1, q2⟩ := hM.cell hv1 hv2
        have j1 : (0 : Int) ≤ (v : Int) := by omega
        have j2 : (v : Int) < 100 := by omega
        cases hin : inB O (v : Int) with
        | true =>
          have E1 : Hid (varsL (t.take (k + 1)) = O) := by rw [E.out]; exact vstep_in (by simpa using hin)
          rw [hin] at q1
          go_wp2_with (first | (go_at_call 48; refine (cV _).mono ?_; rintro e wr ⟨rfl, rfl⟩))
          have hrE : Row w.heap.size wr (.slice oo O.length ocap) (varsL (t.take (k + 1))) := by rw [E1.out]; exact hr
          have hME : MetAt wr w.heap.size (varsL (t.take (k + 1))) := by rw [E1.out]; exact hM
          exact ⟨⟨k + 1, by omega, by go_num, hrE, hME, hne, hs⟩, by simp [intOf]; omega⟩
        | false =>
          have E1 : Hid (varsL (t.take (k + 1)) = O ++ [(v : Int)]) := by show _ = _; rw [E.out, vstep_yes hv (by simpa using hin)]; simp
          rw [hin] at q1
          have hb8 : (O.length + 1) * 8 ≤ 140737488355328 := by omega
          have hMs := hM.set hv1 hv2
          have ks : Kept (fun k => k = w.heap.size) wr (wr.setCell ⟨w.heap.size, v, none⟩ (.bool true)) := Kept.setCell (S := fun k => k = w.heap.size) (p := ⟨w.heap.size, v, none⟩) (Kept.refl _ _) (fun _ => rfl) _
          have hrs : Row w.heap.size (wr.setCell ⟨w.heap.size, v, none⟩ (.bool true)) (.slice oo O.length ocap) O := ks.row hr (fun k e e' => hne (by rw [e, e']))
          have hss : Same0 w (wr.setCell ⟨w.heap.size, v, none⟩ (.bool true)) := hs.own (Nat.le_refl _) _
          have hsz := hss.size
          have hAl : w.heap.size < wr.heap.size := by obtain ⟨cs, q, _⟩ := hM; exact lt_of_at q
          have E3 : Hid ((wr.setCell ⟨w.heap.size, v, none⟩ (.bool true)).heap.size = wr.heap.size) := by show _ = _; simp [World.setCell]
          clear hM hr
          go_wp2_with (first | (go_at_call 48; refine (cV _).mono ?_; rintro e wr ⟨rfl, rfl⟩) | (at_builtin; refine wpList_push rfl _ _ 24 rfl Try.underlying24 w.heap.size O (.slice oo O.length ocap) rfl hrs (v : Int) (by rw [E3.out]; rfl) hsz hb8 ?_; intro g gcap w4 hr4 hk4 hat4; have hs4 := hss.onto hrs hk4))
          have hM4 : MetAt w4 w.heap.size (O ++ [(v : Int)]) := hMs.kept hk4 hne
          have hne4 : Value.ownBlock (.slice (some ⟨g, 0, none⟩) (O.length + 1) gcap) ≠ some w.heap.size := by
            simp only [Value.ownBlock, ne_eq, Option.some.injEq]
            rcases hat4 with e | e
            · intro e'; exact hne (by rw [e, e'])
            · have e3 := E3.out
              omega
          rw [← E1.out] at hr4 hM4
          go_roundw
          case rel => first | exact ⟨k + 1, by omega, by go_num, hr4, hM4, hne4, hs4⟩ | ((repeat apply Exists.intro); exact ⟨⟨k + 1, by omega, by go_num, hr4, hM4, hne4, hs4⟩, rfl⟩)
          case measure => simp [intOf]; omega
    · obtain rfl : k = t.length := by omega
      rw [List.take_length] at hr
      go_wp2
      go_ret
      refine ⟨_, rfl, ?_, hs⟩
      simpa using hr
end Go.Proofs.Ytgoifkbdiicmkaa
