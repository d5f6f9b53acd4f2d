import Derived.Test.YtbjfpfnfbgncnaaGreatDoorM25
import Derived.Test.YtbjfpfnfbgncnaaGreatDoorM31
import Derived.Test.YtbjfpfnfbgncnaaGreatDoorM35
import Derived.Test.YtbjfpfnfbgncnaaGreatDoorM41
import Derived.Test.YtbjfpfnfbgncnaaGreatDoorM24
/- The walk of the laws' head: calls whose answers the document fixes. -/
namespace Go.Proofs.YtbjfpfnfbgncnaaGreatDoor
open Go.RowKit
set_option linter.unusedVariables false
set_option maxRecDepth 100000
def cA : List UInt8 := [99, 111, 110, 32, 122, 47, 48, 44, 32, 115, 47, 49, 59, 32, 102, 117, 110, 32, 97, 100, 100, 47, 50]
def cB : List UInt8 := [97, 100, 100, 40, 115, 40, 89, 41, 44, 32, 88, 41]
def cC : List UInt8 := [97, 100, 100, 40, 113, 44, 32, 115, 41]
def cM : List UInt8 := [42, 58, 51, 44, 32, 49, 46, 48, 58, 48]
def kA : List Tok := [⟨1, 0, [99, 111, 110]⟩, ⟨1, 4, [122]⟩, ⟨9, 5, [47]⟩, ⟨3, 6, [48]⟩, ⟨6, 7, [44]⟩, ⟨1, 9, [115]⟩, ⟨9, 10, [47]⟩, ⟨3, 11, [49]⟩, ⟨7, 12, [59]⟩, ⟨1, 14, [102, 117, 110]⟩, ⟨1, 18, [97, 100, 100]⟩, ⟨9, 21, [47]⟩, ⟨3, 22, [50]⟩, ⟨13, 23, []⟩]
def kB : List Tok := [⟨1, 0, [97, 100, 100]⟩, ⟨4, 3, [40]⟩, ⟨1, 4, [115]⟩, ⟨4, 5, [40]⟩, ⟨2, 6, [89]⟩, ⟨5, 7, [41]⟩, ⟨6, 8, [44]⟩, ⟨2, 10, [88]⟩, ⟨5, 11, [41]⟩, ⟨13, 12, []⟩]
def kC : List Tok := [⟨1, 0, [97, 100, 100]⟩, ⟨4, 3, [40]⟩, ⟨1, 4, [113]⟩, ⟨6, 5, [44]⟩, ⟨1, 7, [115]⟩, ⟨5, 8, [41]⟩, ⟨13, 9, []⟩]
def kM : List Tok := [⟨12, 0, [42]⟩, ⟨11, 1, [58]⟩, ⟨3, 2, [51]⟩, ⟨6, 3, [44]⟩, ⟨3, 5, [49]⟩, ⟨10, 6, [46]⟩, ⟨3, 7, [48]⟩, ⟨11, 8, [58]⟩, ⟨3, 9, [48]⟩, ⟨13, 10, []⟩]
theorem scan_A : scanL cA = .ok kA := by rfl
theorem scan_B : scanL cB = .ok kB := by rfl
theorem scan_C : scanL cC = .ok kC := by rfl
theorem scan_M : scanL cM = .ok kM := by rfl
theorem syms_A : symsR kA = .ok [zS, aS, aAdd] := by rfl
theorem term_B : termR [zS, aS, aAdd] kB = .ok [2, 1, -1, -2] := by rfl
theorem term_C : termR [zS, aS, aAdd] kC = .error (43, 4) := by rfl
theorem moves_M : movesR kM = .ok [([], 3), ([1, 0], 0)] := by rfl
theorem dec_one {u : Nat} (h : u < 10) : Lib.decDigits u = [UInt8.ofNat (48 + u)] := by
  unfold Lib.decDigits
  simp [h]
theorem text_M : movesT [([], 3), ([1, 0], 0)] = cM := by
  simp [movesT, moveT, pathT, joinT, dec_one, cM]
theorem text_T : wT [zS, aS, aAdd] 5 [2, 1, -7, -1] = some ([97, 100, 100, 40, 115, 40, 88, 55, 41, 44, 88, 49, 41], []) := by
  simp [wT, wA, zS, aS, aAdd, dec_one]
def L3' : List Sym := [zS, aS, aAdd]
theorem le_max {n : Nat} (h : n ≤ 1000) : n ≤ maxLen := by unfold maxLen; omega
theorem awA (w : World) : Calls Tryz.prog 14 #[.string ⟨#[99, 111, 110, 32, 122, 47, 48, 44, 32, 115, 47, 49, 59, 32, 102, 117, 110, 32, 97, 100, 100, 47, 50]⟩] w fun e w' => ∃ v, e = .returned (.tuple #[v, .nilIface]) ∧ SymsRow w.heap.size w' v [zS, aS, aAdd] ∧ Same0 w w' := by
  have c := symbols_face (s := ⟨#[99, 111, 110, 32, 122, 47, 48, 44, 32, 115, 47, 49, 59, 32, 102, 117, 110, 32, 97, 100, 100, 47, 50]⟩) (w := w) (le_max (by decide)) scan_A
  rw [syms_A] at c
  refine c.mono ?_
  rintro e w' ⟨v, er, rfl, ⟨h1, rfl⟩, h2⟩
  exact ⟨v, rfl, h1, h2⟩
theorem awB {n b : Nat} {w : World} (hS : Sg n w b [zS, aS, aAdd]) (hn : n ≤ w.heap.size) : Calls Tryz.prog 6 #[.pointer (some ⟨b, 0, none⟩), .string ⟨#[97, 100, 100, 40, 115, 40, 89, 41, 44, 32, 88, 41]⟩] w fun e w' => ∃ v, e = .returned (.tuple #[v, .nilIface]) ∧ w'.ownsRow w.heap.size 3 1 v 4 (intZ [2, 1, -1, -2]) ∧ Same0 w w' := by
  have c := term_face (s := ⟨#[97, 100, 100, 40, 115, 40, 89, 41, 44, 32, 88, 41]⟩) hS hn (le_max (by decide)) scan_B
  rw [term_B] at c
  refine c.mono ?_
  rintro e w' ⟨v, er, rfl, ⟨h1, rfl⟩, h2⟩
  exact ⟨v, rfl, h1, h2⟩
theorem awC {n b : Nat} {w : World} (hS : Sg n w b [zS, aS, aAdd]) (hn : n ≤ w.heap.size) : Calls Tryz.prog 6 #[.pointer (some ⟨b, 0, none⟩), .string ⟨#[97, 100, 100, 40, 113, 44, 32, 115, 41]⟩] w fun e w' => ∃ er, e = .returned (.tuple #[.slice none 0 0, er]) ∧ FaultAt w.heap.size w' er 43 4 ∧ Same0 w w' := by
  have c := term_face (s := ⟨#[97, 100, 100, 40, 113, 44, 32, 115, 41]⟩) hS hn (le_max (by decide)) scan_C
  rw [term_C] at c
  refine c.mono ?_
  rintro e w' ⟨v, er, rfl, ⟨rfl, h1⟩, h2⟩
  exact ⟨er, rfl, h1, h2⟩
theorem awM (w : World) : Calls Tryz.prog 15 #[.string ⟨#[42, 58, 51, 44, 32, 49, 46, 48, 58, 48]⟩] w fun e w' => ∃ ao cap, e = .returned (.tuple #[.slice ao 2 cap, .nilIface]) ∧ MovesAt w.heap.size w' (.slice ao 2 cap) [([], 3), ([1, 0], 0)] ∧ Same0 w w' := by
  have c := moves_face (s := ⟨#[42, 58, 51, 44, 32, 49, 46, 48, 58, 48]⟩) (w := w) (le_max (by decide)) scan_M
  rw [moves_M] at c
  refine c.mono ?_
  rintro e w' ⟨v, er, rfl, ⟨h1, rfl⟩, h2⟩
  have h1' := h1
  obtain ⟨pv, g1, _⟩ := h1
  obtain ⟨ao, cap, rfl⟩ : ∃ ao cap, v = .slice ao 2 cap := row_shape g1
  exact ⟨ao, cap, rfl, h1', h2⟩
theorem awP {n b : Nat} {w : World} (hS : Sg n w b [zS, aS, aAdd]) (hn : n ≤ w.heap.size) : Calls Tryz.prog 8 #[.pointer (some ⟨b, 0, none⟩), .slice (some ⟨w.heap.size, 0, none⟩) 4 4] (w.alloc (.cells #[.int .i64 2, .int .i64 1, .int .i64 (-7), .int .i64 (-1)] 3)) fun e w' => e = .returned (.tuple #[.string ⟨#[97, 100, 100, 40, 115, 40, 88, 55, 41, 44, 88, 49, 41]⟩, .int .i64 0]) ∧ Same0 w w' := by
  have k : Same0 w (w.alloc (.cells #[.int .i64 2, .int .i64 1, .int .i64 (-7), .int .i64 (-1)] 3)) := Kept.alloc (Kept.refl _ w) _
  have c := printTerm_small (cap := 4) (hS.same k) (by have := k.size; omega) (ints_new w [2, 1, -7, -1] 3 rfl) (by decide) (le_max (by decide)) (by decide +kernel) text_T (by simp) (by decide)
  refine c.mono ?_
  rintro e w' ⟨rfl, h⟩
  exact ⟨rfl, k.trans' h⟩
theorem awPM {B : Nat} {w : World} {ao : Option Addr} {cap : Nat} (h : MovesAt B w (.slice ao 2 cap) [([], 3), ([1, 0], 0)]) : Calls Tryz.prog 18 #[.slice ao 2 cap] w fun e w' => e = .returned (.string ⟨#[42, 58, 51, 44, 32, 49, 46, 48, 58, 48]⟩) ∧ Same0 w w' := by
  have c := printMoves_small h ⟨by decide, by simp⟩ (by rw [text_M]; decide)
  rw [text_M] at c
  exact c
set_option maxHeartbeats 1000000 in
theorem plain_any (w : World) : Calls Tryz.prog 13 #[] w fun e w' => e = .returned (.slice (some ⟨w.heap.size, 0, none⟩) 3 3) ∧ w' = w.alloc (.cells #[.string ⟨#[122]⟩, .int .i64 0, .bool false, .string ⟨#[115]⟩, .int .i64 1, .bool false, .string ⟨#[97, 100, 100]⟩, .int .i64 2, .bool true] 95) := by
  go_enter Tryz.func13, Tryz.ntmps13
  go_wp2
  go_ret
  exact ⟨rfl, rfl⟩
end Go.Proofs.YtbjfpfnfbgncnaaGreatDoor
