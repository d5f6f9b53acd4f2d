/- A table of what variables stand for, in memory; the walks of the smallest functions of package match, and of Equal and Clone of package slices. -/
import Derived.Test.YtbcchplcppogoaaMatchPlain
import Derived.Test.YtbcchplcppogoaaPlainW
import Derived.Test.YtbcchplcppogoaaRefPut
namespace Go.Proofs.Ytbcchplcppogoaa
set_option maxRecDepth 100000
set_option linter.unusedVariables false
open Go.RowKit
attribute [local go_sem ↓] Go.wp_at_zero Go.wp_at_succ
/-- The cells of a table: what stands there lies in blocks below N. -/
def TabV (N : Nat) (w : World) (cs : Array Value) (σ : Tb) : Prop := cs.size = 100 ∧ ∀ v, v < 100 → ∃ ao cap, cs[v]? = some (.slice ao (σ v).length cap) ∧ IntsAt w ao (σ v) ∧ (σ v).length ≤ cap ∧ (σ v = [] → ao = none ∧ cap = 0) ∧ ∀ a, ao = some a → a.block < N
def TabAt (N : Nat) (w : World) (A : Nat) (σ : Tb) : Prop := ∃ cs, w.heap[A]? = some (.cells cs 68 (0, 0)) ∧ TabV N w cs σ
theorem TabV.kept {N : Nat} {w w' : World} {cs : Array Value} {σ : Tb} {S : Nat → Prop} (h : TabV N w cs σ) (hk : Kept S w w') (hs : ∀ k, k < N → ¬ S k) : TabV N w' cs σ :=
  ⟨h.1, fun v hv => by obtain ⟨ao, cap, h1, h2, h3, h4, h5⟩ := h.2 v hv; exact ⟨ao, cap, h1, h2.kept hk (fun a e => hs _ (h5 a e)), h3, h4, h5⟩⟩
theorem TabV.same {N : Nat} {w w' : World} {cs : Array Value} {σ : Tb} (h : TabV N w cs σ) (hk : Same0 w w') : TabV N w' cs σ := h.kept hk (fun _ _ f => f)
theorem TabAt.kept {N : Nat} {w w' : World} {A : Nat} {σ : Tb} {S : Nat → Prop} (h : TabAt N w A σ) (hk : Kept S w w') (hs : ∀ k, k < N → ¬ S k) (hA : ¬ S A) : TabAt N w' A σ := by
  obtain ⟨cs, h1, h2⟩ := h
  exact ⟨cs, hk.at h1 hA, h2.kept hk hs⟩
theorem TabAt.same {N : Nat} {w w' : World} {A : Nat} {σ : Tb} (h : TabAt N w A σ) (hk : Same0 w w') : TabAt N w' A σ := h.kept hk (fun _ _ f => f) (fun f => f)
theorem TabAt.cell {N : Nat} {w : World} {A : Nat} {σ : Tb} (h : TabAt N w A σ) {v : Nat} (hv : v < 100) : ∃ ao cap, w.cell? ⟨A, v, none⟩ = some (.slice ao (σ v).length cap) ∧ w.frozen? ⟨A, v, none⟩ = false ∧ IntsAt w ao (σ v) ∧ (σ v).length ≤ cap ∧ (σ v = [] → ao = none ∧ cap = 0) := by
  obtain ⟨cs, h1, h2, h3⟩ := h
  obtain ⟨ao, cap, g1, g2, g3, g4, _⟩ := h3 v hv
  exact ⟨ao, cap, (cellAt h1 v).trans g1, frozenAt h1 v, g2, g3, g4⟩
/-- One more stands there. -/
theorem TabAt.put {N : Nat} {w : World} {A : Nat} {σ : Tb} (h : TabAt N w A σ) (hA : N ≤ A) {v : Nat} (hv : v < 100) {u : List Int} {a : Addr} {cap : Nat} (hu : IntsAt w (some a) u) (hc : u.length ≤ cap) (hn : u ≠ []) (ha : a.block < N) :
    TabAt N (w.setCell ⟨A, v, none⟩ (.slice (some a) u.length cap)) A (updT σ v u) := by
  obtain ⟨cs, h1, h2, h3⟩ := h
  have k : Kept (fun i => i = A) w (w.setCell ⟨A, v, none⟩ (.slice (some a) u.length cap)) := Kept.setCell (p := ⟨A, v, none⟩) (Kept.refl (fun i => i = A) w) (fun _ => rfl) _
  have hne : ∀ k, k < N → ¬ k = A := fun k hk e => by omega
  refine ⟨_, setAt h1 v _, by simpa using h2, fun x hx => ?_⟩
  rw [Array.getElem?_setIfInBounds]
  by_cases e : v = x
  · subst e
    rw [if_pos rfl, if_pos (by omega), upd_same]
    exact ⟨some a, cap, rfl, hu.kept k (fun b e => by cases e; exact hne _ ha), hc, fun e => absurd e hn, fun b e => by cases e; exact ha⟩
  · rw [if_neg e, upd_else (fun h => e h.symm)]
    obtain ⟨ao, c, g1, g2, g3, g4, g5⟩ := h3 x hx
    exact ⟨ao, c, g1, g2.kept k (fun b e => hne _ (g5 b e)), g3, g4, g5⟩
theorem zeros_table : Try.zeroCells68 = Array.replicate 100 (.slice none 0 0) := by kernel_rfl
theorem tab_zero (N : Nat) (w : World) : TabV N w (Array.replicate 100 (.slice none 0 0)) noT :=
  ⟨by simp, fun v hv => ⟨none, 0, by rw [Array.getElem?_replicate, if_pos hv]; rfl, .inl rfl, Nat.le_refl _, fun _ => ⟨rfl, rfl⟩, fun a e => by cases e⟩⟩
theorem eqnil (w : World) (a : Option Addr) (n c n' c' : Nat) : (binOp .eql 25 (.slice a n c) (.slice none n' c')).run Try.prog w = .ok (.bool a.isNone) w := Lib.run_eql_slice_nil w _ _ a n c n' c' Try.underlying25
theorem neqnil (w : World) (a : Option Addr) (n c n' c' : Nat) : (binOp .neq 25 (.slice a n c) (.slice none n' c')).run Try.prog w = .ok (.bool (!a.isNone)) w := run_neq_slice_nil_any w _ _ a n c n' c' Try.underlying25
/-! ### Equal -/
set_option maxHeartbeats 2000000 in
theorem equal_any {w : World} {ao bo : Option Addr} {acap bcap : Nat} {xs ys : List Int} (hx : IntsAt w ao xs) (hy : IntsAt w bo ys) (hm : xs.length ≤ maxLen) :
    Calls Try.prog 40 #[.slice ao xs.length acap, .slice bo ys.length bcap] w fun e w' => e = .returned (.bool (sameB xs ys)) ∧ Same0 w w' := by
  unfold maxLen at hm
  by_cases hl : xs.length = ys.length
  · have hl' : (xs.length : Int) = (ys.length : Int) := by omega
    go_enter Try.func40, Try.ntmps40
    go_wp2
    go_loopw [13] (fun i wr => ∃ k : Nat, k ≤ xs.length ∧ i = .int .i64 (k : Int) ∧ Hid (xs.take k = ys.take k) ∧ Same0 w wr) (fun i _ => xs.length - (intOf i).toNat)
    case atStart => exact ⟨0, Nat.zero_le _, rfl, by simp [Hid], Kept.refl _ _⟩
    case round =>
      obtain ⟨k, hk, rfl, ht, hs⟩ := hrel
      by_cases hlt : k < xs.length
      · have hlt' : k < ys.length := by omega
        obtain ⟨ab, ao', rfl, hab, hac⟩ := (hx.same hs).get hlt
        obtain ⟨bb, bo', rfl, hbb, hbc⟩ := (hy.same hs).get hlt'
        have i1 : (0 : Int) ≤ (k : Int) := by omega
        have i2 : (k : Int) < (xs.length : Int) := by omega
        have i3 : (k : Int) < (ys.length : Int) := by omega
        have d1 : wr.drew.cell? ⟨ab, ao' + k, none⟩ = some (.int .i64 xs[k]) := hac
        have d2 : wr.drew.cell? ⟨bb, bo' + k, none⟩ = some (.int .i64 ys[k]) := hbc
        by_cases he : xs[k] = ys[k]
        · have hn : Hid (xs.take (k + 1) = ys.take (k + 1)) := take_eq_succ ht.out hlt hlt' he
          have he' : (xs[k] == ys[k]) = true := by simpa using he
          go_wp2
          go_quiet (fail)
          go_wp2
          refine ⟨⟨k + 1, by omega, by go_num, hn, hs.drewN _⟩, by simp [intOf]; omega⟩
        · have H : Hid (sameB xs ys = false) := by
            show _ = _
            simp only [sameB, decide_eq_false_iff_not]
            intro e; subst e; exact he rfl
          have he' : (xs[k] == ys[k]) = false := by simpa using he
          go_wp2
          go_quiet (fail)
          go_wp2
          go_ret
          exact ⟨by rw [H.out]; rfl, hs.drewN _⟩
      · have H : Hid (sameB xs ys = true) := by
          have := ht.out
          rw [List.take_of_length_le (by omega), List.take_of_length_le (by omega)] at this
          show _ = _
          simpa [sameB] using this
        go_wp2
        go_ret
        exact ⟨by rw [H.out]; rfl, hs⟩
  · have hl' : ¬ (xs.length : Int) = (ys.length : Int) := by omega
    have H : Hid (sameB xs ys = false) := same_len hl
    go_enter Try.func40, Try.ntmps40
    go_wp2
    go_ret
    exact ⟨by rw [H.out]; rfl, Kept.refl _ _⟩
/-! ### part -/
def partL (σ : Tb) (n : Int) : List Int := if 0 ≤ n then [] else σ (-n).toNat
set_option maxHeartbeats 1000000 in
theorem part_any {N : Nat} {w : World} {A : Nat} {σ : Tb} (h : TabAt N w A σ) (n : Int) (hn : -99 ≤ n) :
    Calls Try.prog 38 #[.pointer (some ⟨A, 0, none⟩), .int .i64 n] w fun e w' => ∃ ao cap, e = .returned (.slice ao (partL σ n).length cap) ∧ IntsAt w ao (partL σ n) ∧ (partL σ n).length ≤ cap ∧ (partL σ n = [] → ao = none ∧ cap = 0) ∧ w' = w := by
  by_cases h0 : 0 ≤ n
  · have H : Hid (partL σ n = []) := by show _ = _; rw [partL, if_pos h0]
    go_enter Try.func38, Try.ntmps38
    go_wp2
    go_ret
    refine ⟨none, 0, ?_, ?_, ?_, ?_, rfl⟩
    all_goals rw [H.out]
    · rfl
    · exact .inl rfl
    · exact Nat.le_refl _
    · exact fun _ => ⟨rfl, rfl⟩
  · obtain ⟨v, hv⟩ : ∃ v : Nat, v = (-n).toNat := ⟨_, rfl⟩
    have H : Hid (partL σ n = σ v) := by show _ = _; rw [partL, if_neg h0, hv]
    obtain ⟨ao, cap, g1, g2, g3, g4, g5⟩ := h.cell (v := v) (by omega)
    obtain rfl : n = -(v : Int) := by omega
    have i1 : (0 : Int) ≤ (v : Int) := by omega
    have i2 : (v : Int) < 100 := by omega
    have i3 : - -(v : Int) = (v : Int) := by omega
    have i4 : ¬ (0 : Int) ≤ -(v : Int) := by omega
    clear hv h0 h
    go_enter Try.func38, Try.ntmps38
    go_wp2
    go_ret
    refine ⟨ao, cap, ?_, ?_, ?_, ?_, rfl⟩
    all_goals rw [H.out]
    · rfl
    · exact g3
    · exact g4
    · exact g5
end Go.Proofs.Ytbcchplcppogoaa
