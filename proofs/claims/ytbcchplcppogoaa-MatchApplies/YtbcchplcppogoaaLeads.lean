/- The walk of TermLeads. -/
import Derived.Test.YtbcchplcppogoaaRefFrom
import Derived.Test.YtbcchplcppogoaaOpenCase
namespace Go.Proofs.Ytbcchplcppogoaa
set_option linter.unusedVariables false
open Go.RowKit
attribute [local go_sem ↓] Go.wp_at_zero Go.wp_at_succ
theorem lead_eq {L : List Sym} {t path : List Int} (h : checkE L t = 0) : (leadR L t path < 0 → leadA L t path = 0 ∧ leadE L t path = 25) ∧ (¬ leadR L t path < 0 → leadA L t path = leadR L t path ∧ leadE L t path = 0) := by
  unfold leadR leadA leadE
  cases hl : leads L t 0 path with
  | none => simp [h]
  | some q => simp [h]
theorem lead_bad {L : List Sym} {t path : List Int} (h : checkE L t ≠ 0) : leadA L t path = 0 ∧ leadE L t path = checkE L t := by
  unfold leadA leadE
  simp [h]
theorem maxLen_of {n : Nat} (h : n * 8 ≤ 140737488351232) : n ≤ maxLen := by unfold maxLen; omega
theorem Arg.same {w w' : World} {ao : Option Addr} {xs : List Int} {cap : Nat} (h : Arg w ao xs cap) (hk : Same0 w w') : Arg w' ao xs cap := ⟨h.at'.same hk, h.cap', h.nil, h.size⟩
theorem SymsAt.same {w w' : World} {ao : Option Addr} {len : Nat} {xs : List Sym} (h : SymsAt w ao len xs) (hk : Same0 w w') : SymsAt w' ao len xs := h.kept hk.below
/-- The cells of a Case that was boxed. -/
theorem case_cells {w w' : World} {cb : Nat} {a0 a1 a2 a3 a4 : Value} {T : TypeId} (hb : w.heap[cb]? = some (.cells #[a0, a1, a2, a3, a4] T (0, 0))) {S : Nat → Prop} (hk : Kept S w w') (hn : ¬ S cb) :
    w'.cell? ⟨cb, 0, none⟩ = some a0 ∧ w'.cell? ⟨cb, 1, none⟩ = some a1 ∧ w'.cell? ⟨cb, 2, none⟩ = some a2 ∧ w'.cell? ⟨cb, 3, none⟩ = some a3 ∧ w'.cell? ⟨cb, 4, none⟩ = some a4 := by
  have h := hk.at hb hn
  exact ⟨cellAt h 0, cellAt h 1, cellAt h 2, cellAt h 3, cellAt h 4⟩
end Go.Proofs.Ytbcchplcppogoaa
