import Derived.Test.YtbjfpfnfbgncnaaGreatDoorM05
/- The walks of the document's small functions (ref03): goes, begins, length. -/
namespace Go.Proofs.YtbjfpfnfbgncnaaGreatDoor
open Go.RowKit
set_option linter.unusedVariables false
set_option linter.unusedSimpArgs false
/-- The bytes behind a place. -/
def rst (s : ByteArray) (p : Nat) : List UInt8 := s.data.toList.drop (p + 1)
theorem drop_at {s : ByteArray} {p : Nat} (h : p < s.size) : s.data.toList.drop p = s[p] :: rst s p := by
  rw [rst, List.drop_eq_getElem_cons (by simpa using h)]; rfl
theorem rst_head {s : ByteArray} {p : Nat} (h : p + 1 < s.size) : (rst s p).head? = some s[p + 1] := by
  rw [rst, List.drop_eq_getElem_cons (by simpa using h)]; rfl
theorem rst_none {s : ByteArray} {p : Nat} (h : ¬ p + 1 < s.size) : rst s p = [] := by
  rw [rst, List.drop_of_length_le (by rw [← size_list]; omega)]
theorem rst_len (s : ByteArray) (p : Nat) : (rst s p).length = s.size - (p + 1) := by rw [rst, List.length_drop, ← size_list]
theorem rst_get {s : ByteArray} {p j : Nat} (h : p + 1 + j < s.size) (h' : j < (rst s p).length) : (rst s p)[j] = s[p + 1 + j] := by
  simp only [rst, List.getElem_drop]; rfl
end Go.Proofs.YtbjfpfnfbgncnaaGreatDoor
