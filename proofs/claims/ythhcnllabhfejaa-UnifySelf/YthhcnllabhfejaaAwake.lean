/- The walk of the statements' head: calls whose answers the document fixes. -/
import Derived.Test.YthhcnllabhfejaaSigAdd
namespace Go.Proofs.Ythhcnllabhfejaa
set_option maxRecDepth 100000
open Go.RowKit
/-- Block b is a signature of these symbols, and lies from block n on with all that is its own. -/
def Own (n : Nat) (w : World) (b : Nat) (L : List Sym) : Prop := ∃ sv mr, SigAt w b L sv mr ∧ ∀ k, Foot b sv mr k → n ≤ k
abbrev From (n k : Nat) : Prop := n ≤ k
theorem Own.new (w : World) {n : Nat} (hn : n ≤ w.heap.size) : Own n (w.alloc (.cells #[.slice none 0 0, .map none] 73)) w.heap.size [] :=
  ⟨_, _, sig_new w, fun k hk => by rcases hk with e | e | e; · omega
                                   · simp [Value.ownBlock] at e
                                   · simp at e⟩
theorem Own.kept {n b : Nat} {w w' : World} {L : List Sym} {S : Nat → Prop} (h : Own n w b L) (hk : Kept S w w') (hs : ∀ k, n ≤ k → ¬ S k) : Own n w' b L := by
  obtain ⟨sv, mr, h1, h2⟩ := h
  exact ⟨sv, mr, h1.kept hk (fun k e => hs k (h2 k e)), h2⟩
theorem Own.add {n b : Nat} {w : World} {L : List Sym} (h : Own n w b L) (hn : n ≤ w.heap.size) (x : Sym) (hs : x.name.size ≤ maxLen) :
    Calls Try.prog 22 #[.pointer (some ⟨b, 0, none⟩), .agg #[.string x.name, .int .i64 x.ar, .bool x.df]] w fun e w' => e = .returned (.tuple #[.int .i64 (addN L x), .int .i64 (addErr L x)]) ∧ Own n w' b (addL L x) ∧ Kept (From n) w w' := by
  obtain ⟨sv, mr, h1, h2⟩ := h
  refine (add_any h1 x hs).mono ?_
  rintro e w' ⟨rfl, sv', mr', h3, h4, h5⟩
  exact ⟨rfl, ⟨sv', mr', h3, fun k hk => (h5 k hk).elim (h2 k) (fun e => by omega)⟩, h4.mono (fun k _ e => h2 k e)⟩
theorem Own.len {n b : Nat} {w : World} {L : List Sym} (h : Own n w b L) :
    Calls Try.prog 52 #[.pointer (some ⟨b, 0, none⟩)] w fun e w' => e = .returned (.int .i64 (L.length : Int)) ∧ w' = w := by
  obtain ⟨sv, mr, h1, h2⟩ := h
  exact len_any h1
theorem Kept.from {n : Nat} {w0 w w' : World} (h : Kept (From n) w0 w) (h' : Kept (From n) w w') : Kept (From n) w0 w' := h.trans h' (fun _ _ e => e)
abbrev aS : Sym := ⟨⟨#[115]⟩, 1, false⟩
abbrev aAdd : Sym := ⟨⟨#[97, 100, 100]⟩, 2, true⟩
abbrev aS0 : Sym := ⟨⟨#[115]⟩, 0, false⟩
theorem nm_s : nameB ⟨#[115]⟩ = true := by decide +kernel
theorem nm_add : nameB ⟨#[97, 100, 100]⟩ = true := by decide +kernel
theorem err1 : addErr [] aS = 0 := by simp [addErr, nm_s, findI]
theorem err2 : addErr [aS] aAdd = 0 := by simp [addErr, nm_add, findI]
theorem err3 : addErr [aS, aAdd] aS0 = 12 := by simp [addErr, nm_s, findI]
theorem fnd : findI [aS, aAdd] ⟨#[97, 100, 100]⟩ = some 1 := by simp [findI]
theorem aw1 {n b : Nat} {w : World} (h : Own n w b []) (hn : n ≤ w.heap.size) : Calls Try.prog 22 #[.pointer (some ⟨b, 0, none⟩), .agg #[.string ⟨#[115]⟩, .int .i64 1, .bool false]] w fun e w' => e = .returned (.tuple #[.int .i64 0, .int .i64 0]) ∧ Own n w' b [aS] ∧ Kept (From n) w w' := by
  have := h.add hn aS (by decide +kernel)
  simpa [addN, addL, err1] using this
theorem aw2 {n b : Nat} {w : World} (h : Own n w b [aS]) (hn : n ≤ w.heap.size) : Calls Try.prog 22 #[.pointer (some ⟨b, 0, none⟩), .agg #[.string ⟨#[97, 100, 100]⟩, .int .i64 2, .bool true]] w fun e w' => e = .returned (.tuple #[.int .i64 1, .int .i64 0]) ∧ Own n w' b [aS, aAdd] ∧ Kept (From n) w w' := by
  have := h.add hn aAdd (by decide +kernel)
  simpa [addN, addL, err2] using this
theorem aw3 {n b : Nat} {w : World} (h : Own n w b [aS, aAdd]) (hn : n ≤ w.heap.size) : Calls Try.prog 22 #[.pointer (some ⟨b, 0, none⟩), .agg #[.string ⟨#[115]⟩, .int .i64 0, .bool false]] w fun e w' => e = .returned (.tuple #[.int .i64 0, .int .i64 12]) ∧ Own n w' b [aS, aAdd] ∧ Kept (From n) w w' := by
  have := h.add hn aS0 (by decide +kernel)
  simpa [addN, addL, err3] using this
theorem aw5 {n b : Nat} {w : World} (h : Own n w b [aS, aAdd]) : Calls Try.prog 52 #[.pointer (some ⟨b, 0, none⟩)] w fun e w' => e = .returned (.int .i64 2) ∧ w' = w := by
  have := h.len
  simpa using this
end Go.Proofs.Ythhcnllabhfejaa
