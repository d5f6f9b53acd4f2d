/- The walks of package unify's Unify, Overlap and Clash. -/
import Derived.Test.YthhcnllabhfejaaUniCommon
namespace Go.Proofs.Ythhcnllabhfejaa
set_option maxRecDepth 100000
set_option linter.unusedVariables false
open Go.RowKit
attribute [local go_sem ↓] Go.wp_at_zero Go.wp_at_succ
theorem sg_up {n b : Nat} {w : World} {L : List Sym} (h : Sg n w b L) {m : Nat} (hn : n ≤ m) : Sg m w b L := by
  obtain ⟨⟨sv, mr, s1, s2⟩, s3⟩ := h
  exact ⟨⟨sv, mr, s1, fun k hk => Nat.lt_of_lt_of_le (s2 k hk) hn⟩, s3⟩
theorem unify_any {b : Nat} {w : World} {L : List Sym} (h : Sg w.heap.size w b L) {xo yo : Option Addr} {xc yc : Nat} {x y : List Int} (hx : IntsAt w xo x) (hy : IntsAt w yo y) (hxm : x.length ≤ maxLen) (hym : y.length ≤ maxLen) :
    Calls Try.prog 11 #[.pointer (some ⟨b, 0, none⟩), .slice xo x.length xc, .slice yo y.length yc] w (ComPost L x y 0 w) := by
  have c := common_any (xc := xc) (yc := yc) h hx hy hxm hym (ap := 0) (by omega)
  clear h hx hy
  go_enter Try.func11, Try.ntmps11
  go_wp2_with (first | (go_at_call 24; refine c.mono ?_; rintro e w1 ⟨v, rfl, hr, hk⟩))
  go_ret2
  exact ⟨_, rfl, hr, hk⟩
theorem overlap_any {b : Nat} {w : World} {L : List Sym} (h : Sg w.heap.size w b L) {xo yo : Option Addr} {xc yc : Nat} {x y : List Int} (hx : IntsAt w xo x) (hy : IntsAt w yo y) (hxm : x.length ≤ maxLen) (hym : y.length ≤ maxLen) :
    Calls Try.prog 14 #[.pointer (some ⟨b, 0, none⟩), .slice xo x.length xc, .slice yo y.length yc] w (ComPost L x y 99 w) := by
  have c := common_any (xc := xc) (yc := yc) h hx hy hxm hym (ap := 99) (by omega)
  clear h hx hy
  go_enter Try.func14, Try.ntmps14
  go_wp2_with (first | (go_at_call 24; refine c.mono ?_; rintro e w1 ⟨v, rfl, hr, hk⟩))
  go_ret2
  exact ⟨_, rfl, hr, hk⟩
def claE (L : List Sym) (a b : List Int) : Int := if checkE L a ≠ 0 then checkE L a else checkE L b
def claB (L : List Sym) (a b : List Int) : Bool := decide (claE L a b = 0) && (solF L (jl a b 99) a.length).isNone
theorem bad_ne (L : List Sym) (t : List Int) : badE L t ≠ 60 := by
  induction t with
  | nil => simp [badE]
  | cons x r ih =>
    simp only [badE, ne_eq]
    split
    · omega
    · split
      · omega
      · exact ih
theorem check_ne (L : List Sym) (t : List Int) : checkE L t ≠ 60 := by
  have := bad_ne L t
  unfold checkE
  split
  · omega
  · split
    · exact this
    · split <;> omega
theorem clash_any {b : Nat} {w : World} {L : List Sym} (h : Sg w.heap.size w b L) {xo yo : Option Addr} {xc yc : Nat} {x y : List Int} (hx : IntsAt w xo x) (hy : IntsAt w yo y) (hxm : x.length ≤ maxLen) (hym : y.length ≤ maxLen) :
    Calls Try.prog 17 #[.pointer (some ⟨b, 0, none⟩), .slice xo x.length xc, .slice yo y.length yc] w fun e w' => e = .returned (.tuple #[.bool (claB L x y), .int .i64 (claE L x y)]) ∧ Same0 w w' := by
  have c := solve_any (xc := xc) (yc := yc) h hx hy hxm hym (ap := 99) (by omega)
  clear h hx hy
  by_cases hz : checkE L x = 0
  · by_cases hq : checkE L y = 0
    · have e0 : claE L x y = 0 := by simp [claE, hz, hq]
      cases hs : solF L (jl x y 99) x.length with
      | none =>
        have e1 : claB L x y = true := by simp [claB, e0, hs]
        rw [e0, e1]
        have c2 : Calls Try.prog 27 #[.pointer (some ⟨b, 0, none⟩), .slice xo x.length xc, .slice yo y.length yc, .int .i64 99] w fun e w' => e = .returned (.tuple #[.pointer none, .int .i64 0, .int .i64 60]) ∧ Same0 w w' := c.mono (fun e w' g => ⟨g.2.2.2.1 hz hq hs, g.1⟩)
        clear c hz hq hs e0 e1
        go_enter Try.func17, Try.ntmps17
        go_wp2_with (first | (go_at_call 27; refine c2.mono ?_; rintro e w1 ⟨rfl, hk⟩))
        go_ret2
        exact ⟨rfl, hk⟩
      | some v =>
        obtain ⟨ld, k⟩ := v
        have e1 : claB L x y = false := by simp [claB, e0, hs]
        rw [e0, e1]
        have c2 : Calls Try.prog 27 #[.pointer (some ⟨b, 0, none⟩), .slice xo x.length xc, .slice yo y.length yc, .int .i64 99] w fun e w' => (∃ j, e = .returned (.tuple #[.pointer (some ⟨j, 0, none⟩), .int .i64 k, .int .i64 0])) ∧ Same0 w w' := c.mono (fun e w' g => by
          obtain ⟨B, sz', a1, _⟩ := g.2.2.2.2 hz hq ld k hs
          exact ⟨⟨_, a1⟩, g.1⟩)
        clear c hz hq hs e0 e1
        go_enter Try.func17, Try.ntmps17
        go_wp2_with (first | (go_at_call 27; refine c2.mono ?_; rintro e w1 ⟨⟨j, rfl⟩, hk⟩))
        go_ret2
        exact ⟨rfl, hk⟩
    · have e0 : claE L x y = checkE L y := by simp [claE, hz]
      have e1 : claB L x y = false := by simp [claB, e0, hq]
      rw [e0, e1]
      have c2 : Calls Try.prog 27 #[.pointer (some ⟨b, 0, none⟩), .slice xo x.length xc, .slice yo y.length yc, .int .i64 99] w fun e w' => e = .returned (.tuple #[.pointer none, .int .i64 0, .int .i64 (checkE L y)]) ∧ Same0 w w' := c.mono (fun e w' g => ⟨g.2.2.1 hz hq, g.1⟩)
      have hn : (checkE L y == 60) = false := by simpa using check_ne L y
      clear c hz hq e0 e1
      go_enter Try.func17, Try.ntmps17
      go_wp2_with (first | (go_at_call 27; refine c2.mono ?_; rintro e w1 ⟨rfl, hk⟩))
      go_ret2
      exact ⟨rfl, hk⟩
  · have e0 : claE L x y = checkE L x := by simp [claE, hz]
    have e1 : claB L x y = false := by simp [claB, e0, hz]
    rw [e0, e1]
    have c2 : Calls Try.prog 27 #[.pointer (some ⟨b, 0, none⟩), .slice xo x.length xc, .slice yo y.length yc, .int .i64 99] w fun e w' => e = .returned (.tuple #[.pointer none, .int .i64 0, .int .i64 (checkE L x)]) ∧ Same0 w w' := c.mono (fun e w' g => ⟨g.2.1 hz, g.1⟩)
    have hn : (checkE L x == 60) = false := by simpa using check_ne L x
    clear c hz e0 e1
    go_enter Try.func17, Try.ntmps17
    go_wp2_with (first | (go_at_call 27; refine c2.mono ?_; rintro e w1 ⟨rfl, hk⟩))
    go_ret2
    exact ⟨rfl, hk⟩
end Go.Proofs.Ythhcnllabhfejaa
