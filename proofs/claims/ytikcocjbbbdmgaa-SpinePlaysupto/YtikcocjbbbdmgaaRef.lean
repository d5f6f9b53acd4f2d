/- The walks of the document's signature (ref01): Find, Add, Of; and of the law's small helpers. -/
import Derived.Test.YtikcocjbbbdmgaaSigAtW
import Derived.Test.YtikcocjbbbdmgaaNames
import Derived.Deep.RegionLaw
import Derived.Deep.DrawnRows
import Derived.Deep.DeepCutAuto
namespace Go.Proofs.Ytikcocjbbbdmgaa
set_option maxRecDepth 100000
open Go.RowKit
attribute [local go_sem ↓] Go.wp_at_zero Go.wp_at_succ
def findR (L : List Sym) (s : ByteArray) : Int := match findI L s with | some i => (i : Int) | none => -1
theorem findI_first {L : List Sym} {s : ByteArray} {k : Nat} (hk : k < L.length) (h : L[k].name = s) (hb : ∀ j (hj : j < L.length), j < k → L[j].name ≠ s) : findI L s = some k := by
  induction L generalizing k with
  | nil => simp at hk
  | cons y r ih =>
    simp only [findI]
    cases k with
    | zero => simp at h; simp [h]
    | succ j =>
      have h0 : y.name ≠ s := hb 0 (by simp) (by omega)
      rw [if_neg h0, ih (k := j) (by simpa using hk) (by simpa using h) (fun i hi hij => by have := hb (i + 1) (by simpa using hi) (by omega); simpa using this)]
      rfl
theorem findI_all {L : List Sym} {s : ByteArray} (hb : ∀ j (hj : j < L.length), L[j].name ≠ s) : findI L s = none := by
  induction L with
  | nil => rfl
  | cons y r ih =>
    simp only [findI]
    have h0 : y.name ≠ s := hb 0 (by simp)
    rw [if_neg h0, ih (fun j hj => by have := hb (j + 1) (by simpa using hj); simpa using this)]
    rfl
def RFoot (rb : Nat) (rv : Value) (k : Nat) : Prop := k = rb ∨ rv.ownBlock = some k
theorem findR_some {L : List Sym} {s : ByteArray} (h : (findI L s).isSome = true) : 0 ≤ findR L s := by
  unfold findR
  cases hf : findI L s with
  | none => simp [hf] at h
  | some i => simp
theorem findR_none {L : List Sym} {s : ByteArray} (h : (findI L s).isSome = false) : findR L s = -1 := by
  unfold findR
  cases hf : findI L s with
  | none => rfl
  | some i => simp [hf] at h
end Go.Proofs.Ytikcocjbbbdmgaa
