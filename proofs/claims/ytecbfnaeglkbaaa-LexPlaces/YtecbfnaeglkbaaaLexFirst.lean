/- The walk of the piece that a text begins with (package lex). -/
import Derived.Test.YtecbfnaeglkbaaaLexRune
import Derived.Test.YtecbfnaeglkbaaaLexBytes
import Derived.LoopTactic
import Derived.Below
namespace Go.Proofs.Ytecbfnaeglkbaaa
open Go.RowKit
set_option linter.unusedVariables false
theorem onZ_high {kind j r : Int} (h : 128 ≤ r) : onZ kind j r = decide (kind = -1) := by
  have h1 : smB r = false := by unfold smB; simp; omega
  have h2 : grB r = false := by unfold grB; simp; omega
  have h3 : dgB r = false := by unfold dgB; simp; omega
  have h4 : (r == 62) = false := by simp; omega
  have h5 : (r != 10) = true := by simp; omega
  unfold onZ
  rw [h1, h2, h3, h4, h5]
  repeat' split
  all_goals simp_all
/-- Does the byte at place j belong to a piece of that kind? -/
def pB (kind : Int) (j : Nat) (b : UInt8) : Bool := onZ kind (j : Int) (b.toNat : Int)
/-- n bytes of the text are its first piece, of that kind. -/
structure Piece (kind : Int) (t : ByteArray) (n : Nat) : Prop where
  pos : 1 ≤ n
  le : n ≤ t.size
  reach : Reach t 0 n
  all : (∀ h : 0 < t.size, t[0].toNat < 128) → ∀ j, 0 < j → j < n → ∀ h : j < t.size, pB kind j t[j] = true
  stop : ∀ h : n < t.size, pB kind n t[n] = false
/-- What holds ahead of a rune. -/
def Gone (kind : Int) (t : ByteArray) (p : Nat) : Prop := p ≤ t.size ∧ Reach t 0 p ∧ ((∀ h : 0 < t.size, t[0].toNat < 128) → ∀ j, 0 < j → j < p → ∀ h : j < t.size, pB kind j t[j] = true)
theorem Gone.start (kind : Int) (t : ByteArray) : Gone kind t 0 := ⟨Nat.zero_le _, .refl _, fun _ j _ h => by omega⟩
theorem Gone.first {kind : Int} {t : ByteArray} (h : 0 < t.size) : Gone kind t (0 + wd t 0) := by
  refine ⟨wd_le h, Reach.snoc (.refl _) h, fun ha j h0 h1 hj => ?_⟩
  rw [wd_ascii h (ha h)] at h1
  omega
theorem Gone.more {kind : Int} {t : ByteArray} {p : Nat} (g : Gone kind t p) (hp : p < t.size) (h : onZ kind (p : Int) (ru t p : Int) = true) : Gone kind t (p + wd t p) := by
  refine ⟨wd_le hp, g.2.1.snoc hp, fun ha j h0 h1 hj => ?_⟩
  by_cases hlt : j < p
  · exact g.2.2 ha j h0 hlt hj
  · by_cases h128 : t[p].toNat < 128
    · rw [wd_ascii hp h128] at h1
      obtain rfl : j = p := by omega
      rw [ru_ascii hp h128] at h
      exact h
    · have hr := ru_high hp (by omega)
      rw [onZ_high (by omega)] at h
      unfold pB
      rw [onZ_high ?_]
      · exact h
      · by_cases e : j = p
        · subst e; omega
        · obtain ⟨k, rfl⟩ : ∃ k, j = p + k := ⟨j - p, by omega⟩
          obtain ⟨_, hb⟩ := wd_bytes hp k (by omega) (by omega)
          omega
theorem Gone.stop {kind : Int} {t : ByteArray} {p : Nat} (g : Gone kind t p) (hp : p < t.size) (h0 : 0 < p) (h : onZ kind (p : Int) (ru t p : Int) = false) : Piece kind t p := by
  refine ⟨h0, g.1, g.2.1, g.2.2, fun hp => ?_⟩
  by_cases h128 : t[p].toNat < 128
  · rw [ru_ascii hp h128] at h; exact h
  · have hr := ru_high hp (by omega)
    rw [onZ_high (by omega)] at h
    unfold pB
    rw [onZ_high (by omega)]; exact h
theorem Gone.whole {kind : Int} {t : ByteArray} {p : Nat} (g : Gone kind t p) (hp : ¬ p < t.size) (h0 : 0 < t.size) : Piece kind t t.size := by
  obtain rfl : p = t.size := by have := g.1; omega
  exact ⟨h0, Nat.le_refl _, g.2.1, g.2.2, fun h => by omega⟩
theorem extract_all (t : ByteArray) : t.extract 0 t.size = t := by
  apply ByteArray.ext
  simp
set_option maxHeartbeats 4000000 in
theorem first_any (kind : Int) (t : ByteArray) (w : World) (hs : t.size ≤ 20000) (h0 : 0 < t.size) :
    Calls Try.prog 15 #[.int .i64 kind, .string t] w fun e w' => (∃ n, e = .returned (.string (t.extract 0 n)) ∧ Piece kind t n) ∧ Below w.heap.size w w' := by
  go_enter Try.func15, Try.ntmps15
  go_wp2
  go_loopw [] (fun wr => ∃ p : Nat, wr.heap[w.heap.size]? = some (.stringIter t p) ∧ Below w.heap.size w wr ∧ Gone kind t p) (fun wr => t.size - wr.iterPos w.heap.size)
  case atStart =>
    refine ⟨0, World.iter_heap w t 0, (Below.refl _ w).alloc (Nat.le_refl _) _, Gone.start kind t⟩
  case round =>
    obtain ⟨p, hit, hbw, hg⟩ := hrel
    by_cases hp : p < t.size
    · have hnx : ∀ ty, (Instr.next (.pointer (some ⟨w.heap.size, 0, none⟩)) true ty).run Try.prog wr = .ok (.tuple #[.bool true, .int .i64 p, .int .i32 (ru t p)]) (wr.iterAt w.heap.size t (p + wd t p)) := fun ty => Lib.run_next_any_at wr w.heap.size t p ty hit hp
      have hwd := wd_pos hp
      have hit2 := Lib.iterAt_heap wr w.heap.size t p (p + wd t p) hit
      have hbw2 := Lib.below_iterAt hbw (k := w.heap.size) (Nat.le_refl _) t (p + wd t p)
      have hms : t.size - (wr.iterAt w.heap.size t (p + wd t p)).iterPos w.heap.size < t.size - wr.iterPos w.heap.size := by
        simp only [World.iterPos, hit2, hit]; omega
      by_cases hz : 0 < p
      · cases hon : onZ kind (p : Int) (ru t p : Int) with
        | true =>
          have hG := hg.more hp hon
          go_wp2_with (go_at_call 25; refine (goesOn_any _ _ _ _).mono ?_; rintro e w' ⟨rfl, rfl⟩)
          go_roundw
          case rel => exact ⟨_, hit2, hbw2, hG⟩
          case measure => exact hms
        | false =>
          have hG := hg.stop hp hz hon
          go_wp2_with (go_at_call 25; refine (goesOn_any _ _ _ _).mono ?_; rintro e w' ⟨rfl, rfl⟩)
          go_ret
          exact ⟨⟨p, by simp, hG⟩, hbw2⟩
      · have hG : Gone kind t (p + wd t p) := by
          obtain rfl : p = 0 := by omega
          exact Gone.first h0
        go_wp2
        go_roundw
        case rel => exact ⟨_, hit2, hbw2, hG⟩
        case measure => exact hms
    · have hnx : ∀ ty, (Instr.next (.pointer (some ⟨w.heap.size, 0, none⟩)) true ty).run Try.prog wr = .ok (.tuple #[.bool false]) wr := fun ty => Lib.run_next_end_at wr w.heap.size t p ty hit hp
      have hG := hg.whole hp h0
      go_wp2
      go_ret
      exact ⟨⟨t.size, by rw [extract_all]; rfl, hG⟩, hbw⟩
end Go.Proofs.Ytecbfnaeglkbaaa
