/- The walks of trail's path, of Path and Depth of package term. -/
import Derived.Test.YthhcnllabhfejaaTermTrail
namespace Go.Proofs.Ythhcnllabhfejaa
set_option linter.unusedVariables false
open Go.RowKit
attribute [local go_sem ↓] Go.wp_at_zero Go.wp_at_succ
def firsts (st : List (Nat × Nat)) : List Int := ofN (st.reverse.map Prod.fst)
theorem firsts_length (st : List (Nat × Nat)) : (firsts st).length = st.length := by simp [firsts, ofN]
theorem firsts_take {st : List (Nat × Nat)} {k : Nat} (h : k < st.length) : (firsts st).take (k + 1) = (firsts st).take k ++ [((st.reverse[k]'(by simpa using h)).1 : Int)] := by
  rw [List.take_add_one, List.getElem?_eq_getElem (by rw [firsts_length]; exact h)]
  simp [firsts, ofN]
theorem way_length (L : List Sym) (t : List Int) (k : Nat) (hk : k ≤ t.length) : (way L t k).length ≤ k := by
  induction k with
  | zero => simp [way, run]
  | succ k ih =>
    rw [way_succ (by omega)]
    have := pass_length (way L t k) (arN L (t[k]'(by omega)))
    have := ih (by omega)
    omega
def pathA (L : List Sym) (t : List Int) (a : Int) : List Int := if placeE L t a = 0 then firsts (way L t a.toNat) else []
/-- How deep the first k places stand. -/
def deepN (L : List Sym) (t : List Int) : Nat → Nat
  | 0 => 0
  | k + 1 => max (deepN L t k) ((way L t k).length + 1)
def depthA (L : List Sym) (t : List Int) : Int := if checkE L t = 0 then (deepN L t t.length : Int) else 0
theorem deepN_le (L : List Sym) (t : List Int) (k : Nat) (hk : k ≤ t.length) : deepN L t k ≤ k := by
  induction k with
  | zero => simp [deepN]
  | succ k ih =>
    have := way_length L t k (by omega)
    have := ih (by omega)
    simp [deepN]; omega
end Go.Proofs.Ythhcnllabhfejaa
