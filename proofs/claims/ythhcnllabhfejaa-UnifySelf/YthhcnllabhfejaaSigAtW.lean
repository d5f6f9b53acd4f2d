/- The walk of At: the symbol of a number. -/
import Derived.Test.YthhcnllabhfejaaAwake
namespace Go.Proofs.Ythhcnllabhfejaa
set_option maxRecDepth 100000
open Go.RowKit
abbrev noSym : Sym := ⟨⟨#[]⟩, 0, false⟩
theorem SigAt.sym {w : World} {b : Nat} {L : List Sym} {ao : Option Addr} {cap : Nat} {mr : Option Nat} (h : SigAt w b L (.slice ao L.length cap) mr) {i : Nat} (hi : i < L.length) :
    ∃ g, ao = some ⟨g, 0, none⟩ ∧ g < w.heap.size ∧ w.cell? ⟨g, i * 3, none⟩ = some (.string L[i].name) ∧ w.cell? ⟨g, i * 3 + 1, none⟩ = some (.int .i64 L[i].ar) ∧ w.cell? ⟨g, i * 3 + 2, none⟩ = some (.bool L[i].df) := by
  obtain ⟨g, cap', hv, _, hlt⟩ := h.row.form (by omega)
  obtain ⟨rfl, _, rfl⟩ : ao = some ⟨g, 0, none⟩ ∧ L.length = L.length ∧ cap = cap' := by simpa using hv
  have hc := fun j hj => h.row.cellAt j hj
  obtain ⟨a1, a2, a3⟩ := symCells_at hi
  refine ⟨g, rfl, hlt, ?_, ?_, ?_⟩
  · rw [hc _ (by omega), a1]
  · rw [hc _ (by omega), a2]
  · rw [hc _ (by omega), a3]
set_option maxHeartbeats 1000000 in
theorem at_yes {w : World} {b : Nat} {L : List Sym} {sv : Value} {mr : Option Nat} (h : SigAt w b L sv mr) (i : Nat) (hi : i < L.length) :
    Calls Try.prog 62 #[.pointer (some ⟨b, 0, none⟩), .int .i64 (i : Int)] w fun e w' => e = .returned (.tuple #[.agg #[.string L[i].name, .int .i64 L[i].ar, .bool L[i].df], .int .i64 0]) ∧ Kept (fun _ => False) w w' := by
  obtain ⟨ao, cap, rfl⟩ := h.sv
  have h1 : ∀ o, SigAt (w.alloc o) b L (.slice ao L.length cap) mr := fun o => h.kept (Kept.alloc (Kept.refl (fun _ => False) w) _) (fun _ _ f => f)
  have c0 : ∀ o, (w.alloc o).cell? ⟨b, 0, none⟩ = some (.slice ao L.length cap) := fun o => cellAt (h1 o).blk 0
  obtain ⟨g, rfl, hg, x0, x1, x2⟩ := h.sym hi
  have hlen := h.len
  have i1 : (0 : Int) ≤ (i : Int) := by omega
  have i2 : (i : Int) < (L.length : Int) := by omega
  go_enter Try.func62, Try.ntmps62
  go_wp2
  exact bodyPost_ret (v := .tuple #[.agg #[.string L[i].name, .int .i64 L[i].ar, .bool L[i].df], .int .i64 0]) (by simp [results, Try.results62, go_sem]) rfl ⟨rfl, Kept.alloc (Kept.refl _ w) _⟩
set_option maxHeartbeats 1000000 in
theorem at_no {w : World} {b : Nat} {L : List Sym} {sv : Value} {mr : Option Nat} (h : SigAt w b L sv mr) (n : Int) (hn : n < 0 ∨ (L.length : Int) ≤ n) :
    Calls Try.prog 62 #[.pointer (some ⟨b, 0, none⟩), .int .i64 n] w fun e w' => e = .returned (.tuple #[.agg #[.string ⟨#[]⟩, .int .i64 0, .bool false], .int .i64 14]) ∧ Kept (fun _ => False) w w' := by
  obtain ⟨ao, cap, rfl⟩ := h.sv
  have h1 : ∀ o, SigAt (w.alloc o) b L (.slice ao L.length cap) mr := fun o => h.kept (Kept.alloc (Kept.refl (fun _ => False) w) _) (fun _ _ f => f)
  have c0 : ∀ o, (w.alloc o).cell? ⟨b, 0, none⟩ = some (.slice ao L.length cap) := fun o => cellAt (h1 o).blk 0
  by_cases h0 : n < 0
  · go_enter Try.func62, Try.ntmps62
    go_wp2
    exact bodyPost_ret (v := .tuple #[.agg #[.string ⟨#[]⟩, .int .i64 0, .bool false], .int .i64 14]) (by simp [results, Try.results62, go_sem]) rfl ⟨rfl, Kept.alloc (Kept.refl _ w) _⟩
  · have h2 : (L.length : Int) ≤ n := by omega
    go_enter Try.func62, Try.ntmps62
    go_wp2
    exact bodyPost_ret (v := .tuple #[.agg #[.string ⟨#[]⟩, .int .i64 0, .bool false], .int .i64 14]) (by simp [results, Try.results62, go_sem]) rfl ⟨rfl, Kept.alloc (Kept.refl _ w) _⟩
end Go.Proofs.Ythhcnllabhfejaa
