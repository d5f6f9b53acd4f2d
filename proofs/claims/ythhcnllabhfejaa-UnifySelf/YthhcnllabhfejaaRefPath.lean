/- The walk of the document's Path. -/
import Derived.Test.YthhcnllabhfejaaTermPath
import Derived.Test.YthhcnllabhfejaaRefTerm
namespace Go.Proofs.Ythhcnllabhfejaa
set_option linter.unusedVariables false
open Go.RowKit
attribute [local go_sem ↓] Go.wp_at_zero Go.wp_at_succ
/-- What the inner loop of Path holds, when k arguments were looked at. -/
structure Sought (w wr : World) (ov : Value) (ao : Option Addr) (args : List Int) (out : List Int) : Prop where
  row : Row w.heap.size wr ov out
  at' : IntsAt wr ao args
  ne : ∀ a, ao = some a → ov.ownBlock ≠ some a.block
  lt : ∀ a, ao = some a → a.block < wr.heap.size
  s : Same0 w wr
theorem Sought.push {w wr w' : World} {ov : Value} {ao : Option Addr} {args out : List Int} {g cap : Nat} {x : Int} (h : Sought w wr ov ao args out) (hr : Row w.heap.size w' (.slice (some ⟨g, 0, none⟩) (out.length + 1) cap) (out ++ [x])) (hk : Kept (fun k => ov.ownBlock = some k) wr w') (hat : ov.ownBlock = some g ∨ wr.heap.size ≤ g) :
    Sought w w' (.slice (some ⟨g, 0, none⟩) (out.length + 1) cap) ao args (out ++ [x]) := by
  refine ⟨hr, h.at'.kept hk (fun a e => h.ne a e), ?_, fun a e => Nat.lt_of_lt_of_le (h.lt a e) hk.size, h.s.onto h.row hk⟩
  intro a e e'
  simp only [Value.ownBlock, Option.some.injEq] at e'
  rcases hat with e1 | e1
  · exact h.ne a e (by rw [e1, e'])
  · have := h.lt a e; omega
theorem firsts_cons (i a : Nat) (st : List (Nat × Nat)) : firsts ((i, a) :: st) = firsts st ++ [(i : Int)] := by simp [firsts, ofN]
end Go.Proofs.Ythhcnllabhfejaa
