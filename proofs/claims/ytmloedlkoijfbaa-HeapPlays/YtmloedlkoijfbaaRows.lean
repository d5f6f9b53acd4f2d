/-
  No cell of these rows narrows 'for every input' (looked for: loops, veiled, ifaces, maps, wideKeys, modest, calm, conditions, laid).
  DERIVED. THE GIVEN ROWS OF THIS SEAT. 4 by the template 'for every input the law returns true; each argument reads behind the call as it read before'; 0 by the template 'total and deterministic' (their statements: YtmloedlkoijfbaaTotals.lean).
  GIVEN WITH THE SEED: the statements are not yours to turn. If you find one false, say at which input.
  Laid BY PROGRAM, IN A SANDBOX (cutbox-rows.mjs): the forced cells as the released guide's own fill.sh prints them over the translation 9b6e05d414c8026a… (all of the seat's roots in one cut). By AI agents, Wed Nov 11 2026. No macro, syntax, notation, axiom, sorry.
-/
import Derived.Test.YtmloedlkoijfbaaChecked
import GoSem.Claim
import GoSem.ClaimJoined
import GoSem.ClaimMapViews
import Derived.JoinedTies
import Derived.KernelRfl
namespace Go.Proofs.Ytmloedlkoijfbaa
/- THE CELL 'sum', in the pinned program and in every row, IS THE sha256 OF THE DUMP (.gsa) THAT YtmloedlkoijfbaaProg.lean LOADS. Nothing in Lean hashes anything: it is a label: what it is worth is what the hold of that sum in a sandbox is worth. -/
noncomputable def Try.pinned : Pinned := { name := "ytmloedlkoijfbaa", sum := "9b6e05d414c8026ad1feee909f64a99125387518706477918123b0091b3f8a3c", checked := Try.checked }
namespace Rows
def none {H : Type} : Left H := { results := [], args := [] }

/-- 'ropewalklaw11.HeapPlays': WHATEVER THE INPUT: true; the input reads as it did. -/
def heapPlaysSpec : ChangeSpec := { name := "heapPlays", fn := fun _ => fun
  | [d1, d2, d3] => { results := [.lit (.bool true)], args := [d1, d2, d3] }
  | _ => none }
def heapPlaysRow : OpenClaim := { program := "ytmloedlkoijfbaa", sum := "9b6e05d414c8026ad1feee909f64a99125387518706477918123b0091b3f8a3c", func := "ropewalk/ropewalklaw11.HeapPlays", spec := "heapPlays", unfollowed := true, recurses := true, apart := false }
def HeapPlaysSaid : Prop := heapPlaysRow.holds Try.pinned (OpenSpec.ofChange heapPlaysSpec)

/-- ITS FALSE NEIGHBOUR: 'it returns false'. Refute it at one input. -/
def heapPlaysWrong : ChangeSpec := { name := "heapPlays", fn := fun _ => fun
  | [d1, d2, d3] => { results := [.lit (.bool false)], args := [d1, d2, d3] }
  | _ => none }
def HeapPlaysWrongFalsely : Prop := heapPlaysRow.holds Try.pinned (OpenSpec.ofChange heapPlaysWrong)

/-- 'ropewalklaw11.HeapRefills': WHATEVER THE INPUT: true; the input reads as it did. -/
def heapRefillsSpec : ChangeSpec := { name := "heapRefills", fn := fun _ => fun
  | [d1, d2, d3] => { results := [.lit (.bool true)], args := [d1, d2, d3] }
  | _ => none }
def heapRefillsRow : OpenClaim := { program := "ytmloedlkoijfbaa", sum := "9b6e05d414c8026ad1feee909f64a99125387518706477918123b0091b3f8a3c", func := "ropewalk/ropewalklaw11.HeapRefills", spec := "heapRefills", unfollowed := true, recurses := true, apart := false }
def HeapRefillsSaid : Prop := heapRefillsRow.holds Try.pinned (OpenSpec.ofChange heapRefillsSpec)

/-- ITS FALSE NEIGHBOUR: 'it returns false'. Refute it at one input. -/
def heapRefillsWrong : ChangeSpec := { name := "heapRefills", fn := fun _ => fun
  | [d1, d2, d3] => { results := [.lit (.bool false)], args := [d1, d2, d3] }
  | _ => none }
def HeapRefillsWrongFalsely : Prop := heapRefillsRow.holds Try.pinned (OpenSpec.ofChange heapRefillsWrong)

/-- 'ropewalklaw11.HeapRanges': WHATEVER THE INPUT: true; the input reads as it did. -/
def heapRangesSpec : ChangeSpec := { name := "heapRanges", fn := fun _ => fun
  | [d1, d2, d3, d4] => { results := [.lit (.bool true)], args := [d1, d2, d3, d4] }
  | _ => none }
def heapRangesRow : OpenClaim := { program := "ytmloedlkoijfbaa", sum := "9b6e05d414c8026ad1feee909f64a99125387518706477918123b0091b3f8a3c", func := "ropewalk/ropewalklaw11.HeapRanges", spec := "heapRanges", unfollowed := true, recurses := true, apart := false }
def HeapRangesSaid : Prop := heapRangesRow.holds Try.pinned (OpenSpec.ofChange heapRangesSpec)

/-- ITS FALSE NEIGHBOUR: 'it returns false'. Refute it at one input. -/
def heapRangesWrong : ChangeSpec := { name := "heapRanges", fn := fun _ => fun
  | [d1, d2, d3, d4] => { results := [.lit (.bool false)], args := [d1, d2, d3, d4] }
  | _ => none }
def HeapRangesWrongFalsely : Prop := heapRangesRow.holds Try.pinned (OpenSpec.ofChange heapRangesWrong)

/-- 'ropewalklaw12.SlideUnseen': WHATEVER THE INPUT: true; the input reads as it did. -/
def slideUnseenSpec : ChangeSpec := { name := "slideUnseen", fn := fun _ => fun
  | [d] => { results := [.lit (.bool true)], args := [d] }
  | _ => none }
def slideUnseenRow : OpenClaim := { program := "ytmloedlkoijfbaa", sum := "9b6e05d414c8026ad1feee909f64a99125387518706477918123b0091b3f8a3c", func := "ropewalk/ropewalklaw12.SlideUnseen", spec := "slideUnseen", apart := false }
def SlideUnseenSaid : Prop := slideUnseenRow.holds Try.pinned (OpenSpec.ofChange slideUnseenSpec)

/-- ITS FALSE NEIGHBOUR: 'it returns false'. Refute it at one input. -/
def slideUnseenWrong : ChangeSpec := { name := "slideUnseen", fn := fun _ => fun
  | [d] => { results := [.lit (.bool false)], args := [d] }
  | _ => none }
def SlideUnseenWrongFalsely : Prop := slideUnseenRow.holds Try.pinned (OpenSpec.ofChange slideUnseenWrong)

/- THE SECOND FORM. 'bulk': how many values and letters a reading holds, each counted each time it is reached (what is shared counts as often as it is met; a slice's spare places count too). A statement '..UptoSaid' is the law's where the arguments, and the package variables that the reading takes, are together of bulk at most 1048576: NARROWER than '..Said'. Prove '..Said' where nothing that the law and all that it calls make is longer than what came in: it says more and counts as full. Else prove '..UptoSaid'. A law counts once. -/
mutual
def uptoBulk {H : Type} : DataW H → Nat
  | .lit (.string bytes) => bytes.length + 1
  | .lit _ => 1
  | .nil => 1
  | .ptr d => uptoBulk d + 1
  | .slice elems spare => uptoBulkAll elems + uptoBulkAll spare + 1
  | .agg parts => uptoBulkAll parts + 1
  | .iface _ d => uptoBulk d + 1
  | .map entries => uptoBulkEntries entries + 1
  | .held _ => 1
def uptoBulkAll {H : Type} : List (DataW H) → Nat
  | [] => 0
  | d :: r => uptoBulk d + uptoBulkAll r
def uptoBulkEntries {H : Type} : List (Lit × DataW H) → Nat
  | [] => 0
  | x :: r => uptoBulkEntry x + uptoBulkEntries r
def uptoBulkEntry {H : Type} : Lit × DataW H → Nat
  | (.string bytes, d) => bytes.length + uptoBulk d + 1
  | (_, d) => uptoBulk d + 1
 end
def uptoSmall : (H : Type) → List (DataW H) → Bool := fun _ ds => decide (uptoBulkAll ds ≤ 1048576)
def OpenSpec.upto (s : _root_.Go.ChangeSpec) : _root_.Go.OpenSpec := { _root_.Go.OpenSpec.ofChange s with cond := some uptoSmall }

/-- 'ropewalklaw11.HeapPlays', WHERE WHAT IT READS IS OF BULK AT MOST 1048576: true; the input reads as it did. -/
def heapPlaysUptoRow : OpenClaim := { program := "ytmloedlkoijfbaa", sum := "9b6e05d414c8026ad1feee909f64a99125387518706477918123b0091b3f8a3c", func := "ropewalk/ropewalklaw11.HeapPlays", spec := "heapPlays", unfollowed := true, recurses := true, apart := false, narrowed := true }
def HeapPlaysUptoSaid : Prop := heapPlaysUptoRow.holds Try.pinned (OpenSpec.upto heapPlaysSpec)

/-- 'ropewalklaw11.HeapRefills', WHERE WHAT IT READS IS OF BULK AT MOST 1048576: true; the input reads as it did. -/
def heapRefillsUptoRow : OpenClaim := { program := "ytmloedlkoijfbaa", sum := "9b6e05d414c8026ad1feee909f64a99125387518706477918123b0091b3f8a3c", func := "ropewalk/ropewalklaw11.HeapRefills", spec := "heapRefills", unfollowed := true, recurses := true, apart := false, narrowed := true }
def HeapRefillsUptoSaid : Prop := heapRefillsUptoRow.holds Try.pinned (OpenSpec.upto heapRefillsSpec)

/-- 'ropewalklaw11.HeapRanges', WHERE WHAT IT READS IS OF BULK AT MOST 1048576: true; the input reads as it did. -/
def heapRangesUptoRow : OpenClaim := { program := "ytmloedlkoijfbaa", sum := "9b6e05d414c8026ad1feee909f64a99125387518706477918123b0091b3f8a3c", func := "ropewalk/ropewalklaw11.HeapRanges", spec := "heapRanges", unfollowed := true, recurses := true, apart := false, narrowed := true }
def HeapRangesUptoSaid : Prop := heapRangesUptoRow.holds Try.pinned (OpenSpec.upto heapRangesSpec)

/-- 'ropewalklaw12.SlideUnseen', WHERE WHAT IT READS IS OF BULK AT MOST 1048576: true; the input reads as it did. -/
def slideUnseenUptoRow : OpenClaim := { program := "ytmloedlkoijfbaa", sum := "9b6e05d414c8026ad1feee909f64a99125387518706477918123b0091b3f8a3c", func := "ropewalk/ropewalklaw12.SlideUnseen", spec := "slideUnseen", apart := false, narrowed := true }
def SlideUnseenUptoSaid : Prop := slideUnseenUptoRow.holds Try.pinned (OpenSpec.upto slideUnseenSpec)

end Rows
end Go.Proofs.Ytmloedlkoijfbaa
