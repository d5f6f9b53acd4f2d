/- The walk of Place of package term. -/
import Derived.Test.YtikcocjbbbdmgaaTermJoin
namespace Go.Proofs.Ytikcocjbbbdmgaa
set_option maxRecDepth 100000
set_option linter.unusedVariables false
open Go.RowKit
attribute [local go_sem ↓] Go.wp_at_zero Go.wp_at_succ
def leadE (L : List Sym) (t : List Int) (path : List Int) : Int := if checkE L t ≠ 0 then checkE L t else match leads L t 0 path with | some _ => 0 | none => 25
def leadA (L : List Sym) (t : List Int) (path : List Int) : Int := if checkE L t ≠ 0 then 0 else match leads L t 0 path with | some q => (q : Int) | none => 0
theorem leads_bad {L : List Sym} {t path : List Int} {q k : Nat} (h : leads L t 0 path = leads L t q (path.drop k)) (hk : k < path.length) (hq : q < t.length) (hn : path[k] < 0 ∨ (arN L t[q] : Int) ≤ path[k]) : leads L t 0 path = none := by
  rw [h, List.drop_eq_getElem_cons hk, leads]
  split
  · rfl
  · rw [argsN_eq hq, List.getElem?_eq_none (by rw [starts_length]; omega)]
theorem leads_good {L : List Sym} {t path : List Int} {q k i : Nat} (h : leads L t 0 path = leads L t q (path.drop k)) (hk : k < path.length) (hq : q < t.length) (hi : path[k] = (i : Int)) (hn : i < arN L t[q]) : leads L t 0 path = leads L t (past L t i (q + 1)) (path.drop (k + 1)) := by
  rw [h, List.drop_eq_getElem_cons hk, leads, hi, if_neg (by omega), argsN_eq hq]
  simp only [Int.toNat_natCast]
  rw [starts_at hn]
theorem past_lt {L : List Sym} {t : List Int} (h : IsT L t) {q i : Nat} (hq : q < t.length) (hi : i < arN L t[q]) : past L t i (q + 1) < t.length := by
  have hf := (Forest.one h hq).kids.2
  have hd := hf.drop (i := i) (by omega)
  rw [show arN L t[q] - i = (arN L t[q] - i - 1) + 1 by omega] at hd
  have := hd.pos
  have := hd.le
  omega
end Go.Proofs.Ytikcocjbbbdmgaa
