/- The walks of Variables: the document's and the program's. -/
import Derived.Test.YthhcnllabhfejaaPlainsPlain
import Derived.Test.YthhcnllabhfejaaRefTerm
namespace Go.Proofs.Ythhcnllabhfejaa
set_option linter.unusedVariables false
open Go.RowKit
attribute [local go_sem ↓] Go.wp_at_zero Go.wp_at_succ
set_option maxHeartbeats 1000000 in
theorem rIsV_any (x : Int) (w : World) : Calls Try.prog 47 #[.int .i64 x] w fun e w' => e = .returned (.bool (isV x)) ∧ w' = w := by
  by_cases h1 : x < 0
  · by_cases h2 : -99 ≤ x
    · have H : Hid (isV x = true) := by show _ = _; simp [isV]; omega
      go_enter Try.func47, Try.ntmps47
      go_wp2
      go_ret
      exact ⟨by rw [H.out]; rfl, rfl⟩
    · have H : Hid (isV x = false) := by show _ = _; simp [isV]; omega
      go_enter Try.func47, Try.ntmps47
      go_wp2
      go_ret
      exact ⟨by rw [H.out]; rfl, rfl⟩
  · have H : Hid (isV x = false) := by show _ = _; simp [isV]; omega
    go_enter Try.func47, Try.ntmps47
    go_wp2
    go_ret
    exact ⟨by rw [H.out]; rfl, rfl⟩
def inB (l : List Int) (n : Int) : Bool := decide (n ∈ l)
set_option maxHeartbeats 1000000 in
theorem rIn_any {w : World} {ao : Option Addr} {cap : Nat} {l : List Int} (hl : IntsAt w ao l) (n : Int) (hm : l.length ≤ maxLen) : Calls Try.prog 48 #[.slice ao l.length cap, .int .i64 n] w fun e w' => e = .returned (.bool (inB l n)) ∧ w' = w := by
  unfold maxLen at hm
  go_enter Try.func48, Try.ntmps48
  go_wp2
  go_loop [5] (fun i => ∃ k : Nat, k ≤ l.length ∧ i = .int .i64 (k : Int) ∧ Hid (¬ n ∈ l.take k)) (fun i => l.length - (intOf i).toNat)
  case atStart => exact ⟨0, Nat.zero_le _, rfl, by simp [Hid]⟩
  case round =>
    obtain ⟨k, hk, rfl, hn⟩ := hrel
    by_cases hlt : k < l.length
    · obtain ⟨b, off, rfl, _, hc⟩ := hl.get hlt
      have i1 : (0 : Int) ≤ (k : Int) := by omega
      have i2 : (k : Int) < (l.length : Int) := by omega
      by_cases he : l[k] = n
      · have H : Hid (inB l n = true) := by show _ = _; simp [inB]; rw [← he]; exact List.getElem_mem hlt
        have he' : (l[k] == n) = true := by simpa using he
        go_wp2
        go_ret
        exact ⟨by rw [H.out]; rfl, rfl⟩
      · have he' : (l[k] == n) = false := by simpa using he
        have hn' : Hid (¬ n ∈ l.take (k + 1)) := by
          rw [List.take_add_one, List.getElem?_eq_getElem hlt]
          intro hh
          rcases List.mem_append.1 hh with hh | hh
          · exact hn.out hh
          · simp at hh; exact he hh.symm
        go_wp2
        exact ⟨⟨k + 1, by omega, by go_num, hn'⟩, by simp [intOf]; omega⟩
    · have H : Hid (inB l n = false) := by
        have := hn.out
        rw [List.take_of_length_le (by omega)] at this
        show _ = _; simpa [inB] using this
      go_wp2
      go_ret
      exact ⟨by rw [H.out]; rfl, rfl⟩
theorem vstep_yes {o : List Int} {x : Int} (h1 : isV x = true) (h2 : inB o (-x) = false) : vstep o x = o ++ [-x] := by
  rw [vstep, if_pos ⟨h1, by simpa [inB] using h2⟩]
theorem vstep_in {o : List Int} {x : Int} (h2 : inB o (-x) = true) : vstep o x = o := by
  rw [vstep, if_neg (by simp [inB] at h2; simp [h2])]
theorem vstep_no {o : List Int} {x : Int} (h1 : isV x = false) : vstep o x = o := by
  rw [vstep, if_neg (by simp [h1])]
set_option maxHeartbeats 2000000 in
theorem rvars_any {w : World} {ao : Option Addr} {cap : Nat} {t : List Int} (ht : IntsAt w ao t) (hm : t.length * 8 ≤ 140737488351232) :
    Calls Try.prog 31 #[.slice ao t.length cap] w fun e w' => ∃ v, e = .returned v ∧ Row w.heap.size w' v (varsL t) ∧ Same0 w w' := by
  go_enter Try.func31, Try.ntmps31
  go_wp2
  go_loopw [3, 4] (fun ov i wr => ∃ k : Nat, k ≤ t.length ∧ i = .int .i64 (k : Int) ∧ Row w.heap.size wr ov (varsL (t.take k)) ∧ Same0 w wr) (fun _ i _ => t.length - (intOf i).toNat)
  case atStart => exact ⟨0, Nat.zero_le _, rfl, World.ownsRow_nil _ _ _ _, Kept.refl _ _⟩
  case round =>
    obtain ⟨k, hk, rfl, hr, hs⟩ := hrel
    obtain ⟨oo, ocap, rfl⟩ := row_shape hr
    by_cases hlt : k < t.length
    · obtain ⟨b, off, rfl, _, hc⟩ := (ht.same hs).get hlt
      have i1 : (0 : Int) ≤ (k : Int) := by omega
      have i2 : (k : Int) < (t.length : Int) := by omega
      have E : Hid (varsL (t.take (k + 1)) = vstep (varsL (t.take k)) t[k]) := vs_take hlt
      have hl := vs_len [] (t.take k)
      have hl2 : (varsL (t.take k)).length ≤ t.length := by simp at hl; unfold varsL; omega
      have cV := fun w' => rIsV_any t[k] w'
      clear hl
      generalize hO : varsL (t.take k) = O at *
      generalize hX : t[k] = x at *
      cases hv : isV x with
      | false =>
        have E1 : Hid (varsL (t.take (k + 1)) = O) := by rw [E.out]; exact vstep_no hv
        rw [← E1.out] at hr
        simp only [hv] at cV
        have hlE := congrArg List.length E1.out
        rw [← hlE]
        clear hlE
        go_wp2_with (first | (go_at_call 47; refine (cV _).mono ?_; rintro e wr ⟨rfl, rfl⟩))
        go_roundw
        case rel => first | exact ⟨k + 1, by omega, by go_num, hr, hs⟩ | ((repeat apply Exists.intro); exact ⟨⟨k + 1, by omega, by go_num, hr, hs⟩, rfl⟩)
        case measure => simp [intOf]; omega
      | true =>
        simp only [hv] at cV
        have hx := isV_iff.1 hv
        obtain ⟨oo', ocap', hvv, io, _, _⟩ := hr.ints
        simp only [Value.slice.injEq, true_and] at hvv
        obtain ⟨rfl, rfl⟩ := hvv
        have cI := rIn_any (cap := ocap) io (-x) (by unfold maxLen; omega)
        cases hin : inB O (-x) with
        | true =>
          have E1 : Hid (varsL (t.take (k + 1)) = O) := by rw [E.out]; exact vstep_in hin
          rw [hin] at cI
          go_wp2_with (first | (go_at_call 47; refine (cV _).mono ?_; rintro e wr ⟨rfl, rfl⟩) | (go_at_call 48; refine cI.mono ?_; rintro e wr ⟨rfl, rfl⟩))
          rw [← E1.out] at hr
          have hrE : Row w.heap.size wr (.slice oo O.length ocap) (varsL (t.take (k + 1))) := by rw [E1.out] at hr ⊢; exact hr
          exact ⟨⟨k + 1, by omega, by go_num, hrE, hs⟩, by simp [intOf]; omega⟩
        | false =>
          have E1 : Hid (varsL (t.take (k + 1)) = O ++ [-x]) := by rw [E.out]; exact vstep_yes hv hin
          rw [hin] at cI
          have hb8 : (O.length + 1) * 8 ≤ 140737488355328 := by omega
          have hss := hs.size
          go_wp2_with (first | (go_at_call 47; refine (cV _).mono ?_; rintro e wr ⟨rfl, rfl⟩) | (go_at_call 48; refine cI.mono ?_; rintro e wr ⟨rfl, rfl⟩) | (at_builtin; refine wpList_push rfl _ _ 24 rfl Try.underlying24 w.heap.size O _ rfl hr (-x) rfl hss hb8 ?_; intro g gcap w4 hr4 hk4 _; have hs4 := hs.onto hr hk4))
          rw [← E1.out] at hr4
          go_roundw
          case rel => first | exact ⟨k + 1, by omega, by go_num, hr4, hs4⟩ | ((repeat apply Exists.intro); exact ⟨⟨k + 1, by omega, by go_num, hr4, hs4⟩, rfl⟩)
          case measure => simp [intOf]; omega
    · obtain rfl : k = t.length := by omega
      rw [List.take_length] at hr
      go_wp2
      go_ret
      refine ⟨_, rfl, ?_, hs⟩
      simpa using hr
end Go.Proofs.Ythhcnllabhfejaa
