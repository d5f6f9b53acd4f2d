/- Signatures in plain words (a list of symbols), and what it is that a block of memory is one. -/
import Derived.Test.YtikcocjbbbdmgaaBase
import Derived.Test.YtikcocjbbbdmgaaNamesPlain
import Derived.Test.YtikcocjbbbdmgaaProg
import Derived.KernelRfl
namespace Go.Proofs.Ytikcocjbbbdmgaa
open Go.RowKit
structure Sym where
  name : ByteArray
  ar : Int
  df : Bool
/-- The number of the first symbol of that name. -/
def findI : List Sym → ByteArray → Option Nat
  | [], _ => none
  | x :: r, s => if x.name = s then some 0 else (findI r s).map (· + 1)
theorem findI_snoc (L : List Sym) (x : Sym) (s : ByteArray) : findI (L ++ [x]) s = match findI L s with | some i => some i | none => if x.name = s then some L.length else none := by
  induction L with
  | nil => simp [findI]
  | cons y r ih =>
    simp only [List.cons_append, findI]
    by_cases h : y.name = s
    · simp [h]
    · simp only [h, if_false, ih]
      cases hf : findI r s with
      | some i => simp
      | none => by_cases hx : x.name = s <;> simp [hx]
theorem findI_lt {L : List Sym} {s : ByteArray} {i : Nat} (h : findI L s = some i) : ∃ hi : i < L.length, L[i].name = s := by
  induction L generalizing i with
  | nil => simp [findI] at h
  | cons y r ih =>
    simp only [findI] at h
    by_cases hy : y.name = s
    · simp [hy] at h; subst h; exact ⟨by simp, by simpa using hy⟩
    · simp only [hy, if_false, Option.map_eq_some_iff] at h
      obtain ⟨j, hj, rfl⟩ := h
      obtain ⟨h1, h2⟩ := ih hj
      exact ⟨by simp; omega, by simpa using h2⟩
theorem findI_none {L : List Sym} {s : ByteArray} (h : findI L s = none) : ∀ x ∈ L, x.name ≠ s := by
  induction L with
  | nil => simp
  | cons y r ih =>
    simp only [findI] at h
    by_cases hy : y.name = s
    · simp [hy] at h
    · simp only [hy, if_false, Option.map_eq_none_iff] at h
      intro x hx
      rcases List.mem_cons.1 hx with rfl | hx
      · exact hy
      · exact ih h x hx
/-- The cells of a row of symbols. -/
def symCells (L : List Sym) : List Value := L.flatMap fun x => [.string x.name, .int .i64 x.ar, .bool x.df]
theorem symCells_length (L : List Sym) : (symCells L).length = L.length * 3 := by
  induction L with
  | nil => rfl
  | cons x r ih => simp [symCells] at ih ⊢; omega
theorem symCells_append (L M : List Sym) : symCells (L ++ M) = symCells L ++ symCells M := by simp [symCells]
theorem symCells_snoc (L : List Sym) (x : Sym) : symCells (L ++ [x]) = symCells L ++ [.string x.name, .int .i64 x.ar, .bool x.df] := by simp [symCells]
theorem symCells_at {L : List Sym} {i : Nat} (h : i < L.length) : (symCells L)[i * 3]? = some (.string L[i].name) ∧ (symCells L)[i * 3 + 1]? = some (.int .i64 L[i].ar) ∧ (symCells L)[i * 3 + 2]? = some (.bool L[i].df) := by
  induction L generalizing i with
  | nil => simp at h
  | cons x r ih =>
    have e : symCells (x :: r) = .string x.name :: .int .i64 x.ar :: .bool x.df :: symCells r := by simp [symCells]
    rw [e]
    cases i with
    | zero => simp
    | succ j =>
      have := ih (i := j) (by simpa using h)
      rw [show (j + 1) * 3 = j * 3 + 1 + 1 + 1 by omega]
      simpa using this

/-! ### the answer of Add -/
def addErr (L : List Sym) (x : Sym) : Int :=
  if nameB x.name = false then 10 else if x.ar < 0 ∨ 6 < x.ar then 11 else if (findI L x.name).isSome then 12 else if 64 ≤ L.length then 13 else 0

/-! ### closed facts of the program -/
theorem law_string : Maps.Keyed Try.prog 9 := Maps.string_keyed Try.underlying9
theorem zero_int (w : World) : (zeroValue 3).run Try.prog w = .ok (.int .i64 0) w := by kernel_rfl

/-- What the map of a signature holds. -/
def MapIs (w : World) (mr : Option Nat) (L : List Sym) : Prop :=
  match mr with
  | none => L = []
  | some bm => ∃ n D, w.ownsMap (H := Unit) Try.prog 9 (plainElem Try.prog 3) bm n D ∧ n ≤ L.length ∧
      ∀ s : ByteArray, Maps.has D (.string s.data.toList) = (findI L s).isSome ∧ ∀ i, findI L s = some i → D.atKey (.string s.data.toList) (.lit (.int .i64 0)) = .lit (.int .i64 (i : Int))
/-- The blocks of a signature. -/
def Foot (b : Nat) (sv : Value) (mr : Option Nat) (k : Nat) : Prop := k = b ∨ sv.ownBlock = some k ∨ mr = some k
theorem MapIs.kept {S : Nat → Prop} {w w' : World} {mr : Option Nat} {L : List Sym} (h : MapIs w mr L) (hk : Kept S w w') (hn : ∀ k, mr = some k → ¬ S k) : MapIs w' mr L := by
  cases mr with
  | none => exact h
  | some bm =>
    obtain ⟨n, D, hm, r⟩ := h
    exact ⟨n, D, hk.map hm (hn bm rfl), r⟩
theorem nameB_size {s : ByteArray} (h : nameB s = true) : s.size ≤ 12 := by
  exact (of_decide_eq_true h).2.1
theorem key_str {s : ByteArray} (hs : s.size ≤ maxLen) : keyOf Try.prog 9 (.string s) = some (.string s.data.toList) := Go.WideMaps.keyOf_string_mk Try.underlying9 hs
abbrev symV (x : Sym) : Value := .agg #[.string x.name, .int .i64 x.ar, .bool x.df]
end Go.Proofs.Ytikcocjbbbdmgaa
