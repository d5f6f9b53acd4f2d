/- The walk of package unify's leader. -/
import Derived.Test.YthhcnllabhfejaaUniMem
namespace Go.Proofs.Ythhcnllabhfejaa
set_option maxRecDepth 100000
set_option linter.unusedVariables false
open Go.RowKit
attribute [local go_sem ↓] Go.wp_at_zero Go.wp_at_succ
def JB.Way (B : JB) (k : Nat) : Prop := k = B.jb ∨ k = B.sb
theorem JB.way (B : JB) (x : Int) : B.Way (nxB B x) := by
  unfold nxB; split
  · exact .inl rfl
  · exact .inr rfl
set_option maxHeartbeats 2000000 in
theorem leader_any {L : List Sym} {w : World} {B : JB} {J : List Int} {ld : Int → Int} {sz : Nat → Int} (h : JAt L B w J ld sz) {x : Int} (hx : UPart J x) :
    Calls Try.prog 55 #[.pointer (some ⟨B.jb, 0, none⟩), .int .i64 x] w fun e w' => e = .returned (.int .i64 (ld x)) ∧ JAt L B w' J ld sz ∧ Kept B.Way w w' := by
  obtain ⟨nx, ρ, hC, hL⟩ := h
  go_enter Try.func55, Try.ntmps55
  go_wp2_with fail
  go_loopw [1] (fun tp wr => ∃ y ny, tp = .int .i64 y ∧ UPart J y ∧ ld y = ld x ∧ JC L B wr J ny sz ∧ Led J ny ld ρ ∧ Kept B.Way w wr) (fun tp _ => ρ (intOf tp))
  case atStart => exact ⟨x, nx, rfl, hx, rfl, hC, hL, Kept.refl _ _⟩
  case round =>
    obtain ⟨y, ny, rfl, hy, hyx, hC', hL', hK⟩ := hrel
    have c1 := unext_any hC' hy
    have py := hL'.part y hy
    have c2 := unext_any hC' py
    obtain ⟨a1, a2⟩ := hC'.next hy
    obtain ⟨b1, b2⟩ := hC'.next py
    have hlt := hy.1
    have hpt := hC'.put hy (ny (ny y))
    by_cases hn : ny y = y
    · have e1 : ld x = y := by rw [← hyx]; exact (hL'.stop y hy).1 hn
      have fin : JAt L B wr J ld sz := ⟨ny, ρ, hC', hL'⟩
      rw [hn] at a1
      clear hC hL hC' hL' hpt c2 b1 b2
      go_wp2_with (go_at_call 66; refine c1.mono ?_; rintro e w' ⟨rfl, rfl⟩)
      go_returns
      exact ⟨by rw [e1]; rfl, fin, hK⟩
    · obtain ⟨hL2, hd⟩ := hL'.halve hy hn
      obtain ⟨hC2, hK2⟩ := hpt
      have hK3 : Kept B.Way w (wr.setCell (nxA B y) (.int .i64 (ny (ny y)))) := hK.trans hK2 (fun i _ e => by rw [e]; exact B.way y)
      have pz := hL'.part _ py
      have lz : ld (ny (ny y)) = ld x := by rw [hL'.lead _ py, hL'.lead _ hy, hyx]
      have n3 := hC2.next hy
      clear hC hL hC' hL'
      go_upto_region 4 with (go_at_call 66; refine c1.mono ?_; rintro e w' ⟨rfl, rfl⟩)
      go_wp2_with (go_at_call 66; refine c2.mono ?_; rintro e w' ⟨rfl, rfl⟩)
      go_roundw
      case rel => exact ⟨_, _, rfl, pz, lz, hC2, hL2, hK3⟩
      case measure => simpa [intOf] using hd
end Go.Proofs.Ythhcnllabhfejaa
