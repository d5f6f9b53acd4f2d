/- Lists of numbers that lie in memory; a signature, the program's and the document's, of the same symbols; the walks of the smallest functions of package term. -/
import Derived.Test.YtikcocjbbbdmgaaTermPlain
import Derived.Test.YtikcocjbbbdmgaaRefAdd
import Derived.Test.YtikcocjbbbdmgaaOpen
import Derived.Handy
namespace Go.Proofs.Ytikcocjbbbdmgaa
set_option maxRecDepth 100000
open Go.RowKit
attribute [local go_sem ↓] Go.wp_at_zero Go.wp_at_succ
/-- Numbers that lie in memory. -/
def IntsAt (w : World) (ao : Option Addr) (xs : List Int) : Prop :=
  xs = [] ∨ ∃ b off, ao = some ⟨b, off, none⟩ ∧ b < w.heap.size ∧ ∀ i (h : i < xs.length), w.cell? ⟨b, off + i, none⟩ = some (.int .i64 xs[i])
theorem IntsAt.kept {w w' : World} {S : Nat → Prop} {ao : Option Addr} {xs : List Int} (h : IntsAt w ao xs) (hk : Kept S w w') (hs : ∀ a, ao = some a → ¬ S a.block) : IntsAt w' ao xs := by
  refine h.imp id ?_
  rintro ⟨b, off, rfl, hlt, hc⟩
  exact ⟨b, off, rfl, Nat.lt_of_lt_of_le hlt hk.size, fun i hi => (hk.cell (p := ⟨b, off + i, none⟩) hlt (hs ⟨b, off, none⟩ rfl)).trans (hc i hi)⟩
theorem IntsAt.same {w w' : World} {ao : Option Addr} {xs : List Int} (h : IntsAt w ao xs) (hk : Same0 w w') : IntsAt w' ao xs := h.kept hk (fun _ _ f => f)
theorem IntsAt.get {w : World} {ao : Option Addr} {xs : List Int} (h : IntsAt w ao xs) {i : Nat} (hi : i < xs.length) : ∃ b off, ao = some ⟨b, off, none⟩ ∧ b < w.heap.size ∧ w.cell? ⟨b, off + i, none⟩ = some (.int .i64 xs[i]) := by
  rcases h with rfl | ⟨b, off, e, hlt, hc⟩
  · simp at hi
  · exact ⟨b, off, e, hlt, hc i hi⟩
/-- The arities are what Add takes. -/
def Ars (L : List Sym) : Prop := ∀ x ∈ L, 0 ≤ x.ar ∧ x.ar ≤ 6
theorem arN_le {L : List Sym} (h : Ars L) (n : Int) : arN L n ≤ 6 := by
  unfold arN
  split
  · omega
  · split
    · rename_i x hx
      have := h x (List.mem_of_getElem? hx)
      omega
    · omega
theorem ar_of {L : List Sym} (h : Ars L) {i : Nat} (hi : i < L.length) : ((arN L (i : Int) : Nat) : Int) = L[i].ar := by
  have := (h L[i] (List.getElem_mem hi)).1
  rw [arN, if_neg (by omega)]; simp [hi]; omega
theorem ar_no {L : List Sym} {n : Int} (hn : n < 0 ∨ (L.length : Int) ≤ n) : arN L n = 0 := by
  unfold arN
  rcases hn with h | h
  · simp [h]
  · rw [if_neg (by omega), List.getElem?_eq_none (by omega)]
def numE (L : List Sym) (x : Int) : Int := if (L.length : Int) ≤ x then 21 else if x < -99 then 22 else 0
end Go.Proofs.Ytikcocjbbbdmgaa
