/- Rows of tokens in memory; append of one token; what an answer of a scanner is. -/
import Derived.Test.YtecbfnaeglkbaaaLexRefusal
import Derived.Test.YtecbfnaeglkbaaaClone
import Derived.OwnWalk
import Derived.Handy
import Derived.KernelRfl
namespace Go.Proofs.Ytecbfnaeglkbaaa
open Go.RowKit
set_option linter.unusedVariables false
abbrev Same0 : World → World → Prop := Kept (fun _ => False)
theorem Same0.trans' {a b c : World} (h : Same0 a b) (k : Same0 b c) : Same0 a c := Kept.trans h k (fun _ _ f => f)
theorem Same0.of_below {w w' : World} (h : Below w.heap.size w w') : Same0 w w' := ⟨h.os, h.tape, h.output, h.size, fun k hk _ => h.block k hk⟩
theorem Same0.below {w w' : World} (h : Same0 w w') : Below w.heap.size w w' := Kept.below h (Nat.le_refl _) (fun _ _ f => f)
theorem Same0.at0 {w w' : World} (h : Same0 w w') {b : Nat} {o : Obj} (hb : w.heap[b]? = some o) : w'.heap[b]? = some o := Kept.at h hb (fun f => f)
theorem Kept.iterAt {w : World} {k : Nat} (s : ByteArray) (p : Nat) : Kept (fun i => i = k) w (w.iterAt k s p) :=
  ⟨rfl, rfl, rfl, by rw [Lib.iterAt_size]; exact Nat.le_refl _, fun i _ hn => Lib.iterAt_other w k i s p hn⟩
/-- Bytes as a string. -/
def txt (l : List UInt8) : ByteArray := ⟨l.toArray⟩
theorem txt_of {s : ByteArray} {l : List UInt8} (h : s.data.toList = l) : s = txt l := by subst h; rfl
theorem txt_list (l : List UInt8) : (txt l).data.toList = l := by simp [txt]
theorem txt_inj {a b : List UInt8} (h : txt a = txt b) : a = b := by rw [← txt_list a, ← txt_list b, h]
theorem txt_size (l : List UInt8) : (txt l).size = l.length := by rw [size_list, txt_list]
def tokV (x : Tok) : List Value := [.int .i64 (x.kind : Int), .int .i64 (x.at' : Int), .string (txt x.text)]
def tokCells (l : List Tok) : List Value := l.flatMap tokV
theorem tokCells_snoc (l : List Tok) (x : Tok) : tokCells (l ++ [x]) = tokCells l ++ tokV x := by simp [tokCells]
theorem tokCells_length (l : List Tok) : (tokCells l).length = l.length * 3 := by
  induction l with
  | nil => rfl
  | cons x r ih => simp [tokCells, tokV] at ih ⊢; omega
theorem tokCells_at {l : List Tok} {i : Nat} (h : i < l.length) : (tokCells l)[i * 3]? = some (.int .i64 (l[i].kind : Int)) ∧ (tokCells l)[i * 3 + 1]? = some (.int .i64 (l[i].at' : Int)) ∧ (tokCells l)[i * 3 + 2]? = some (.string (txt l[i].text)) := by
  induction l generalizing i with
  | nil => simp at h
  | cons x r ih =>
    have e : tokCells (x :: r) = .int .i64 (x.kind : Int) :: .int .i64 (x.at' : Int) :: .string (txt x.text) :: tokCells r := by simp [tokCells, tokV]
    rw [e]
    cases i with
    | zero => simp
    | succ j =>
      obtain ⟨a, b, c⟩ := ih (i := j) (by simpa using h)
      have e1 : (j + 1) * 3 = j * 3 + 1 + 1 + 1 := by omega
      refine ⟨?_, ?_, ?_⟩
      · rw [e1]; simpa using a
      · rw [e1, show j * 3 + 1 + 1 + 1 + 1 = j * 3 + 1 + 1 + 1 + 1 by rfl]; simpa using b
      · rw [e1, show j * 3 + 1 + 1 + 1 + 2 = (j * 3 + 2) + 1 + 1 + 1 by omega]; simpa using c
/-- A row of tokens, the call's own. -/
def TRow (base : Nat) (w : World) (v : Value) (l : List Tok) : Prop := w.ownsRow base 40 3 v l.length (tokCells l)
theorem TRow.kept {base : Nat} {w w' : World} {v : Value} {l : List Tok} {S : Nat → Prop} (h : TRow base w v l) (hk : Kept S w w') (hs : ∀ k, base ≤ k → ¬ S k) : TRow base w' v l := by
  refine hk.row h (fun k e => ?_)
  rcases h.2 with ⟨rfl, _⟩ | ⟨g, cap, cur, rfl, hb, _⟩
  · simp [Value.ownBlock] at e
  · simp [Value.ownBlock] at e; subst e; exact hs _ hb
theorem TRow.same {base : Nat} {w w' : World} {v : Value} {l : List Tok} (h : TRow base w v l) (hk : Same0 w w') : TRow base w' v l := h.kept hk (fun _ _ f => f)
theorem TRow.keptRow {base : Nat} {w w' : World} {v : Value} {l : List Tok} {S : Nat → Prop} (h : TRow base w v l) (hk : Kept S w w') (hs : ∀ k, v.ownBlock = some k → ¬ S k) : TRow base w' v l := hk.row h hs
theorem TRow.own {base : Nat} {w : World} {v : Value} {l : List Tok} (h : TRow base w v l) {k : Nat} (e : v.ownBlock = some k) : base ≤ k ∧ k < w.heap.size := by
  rcases h.2 with ⟨rfl, _⟩ | ⟨g, cap, cur, rfl, hb, hg, _⟩
  · simp [Value.ownBlock] at e
  · simp [Value.ownBlock] at e; subst e; exact ⟨hb, lt_of_at hg⟩
theorem TRow.nil (base : Nat) (w : World) : TRow base w (.slice none 0 0) [] := ⟨by simp [tokCells], .inl ⟨rfl, rfl⟩⟩
theorem TRow.mono {base base' : Nat} {w : World} {v : Value} {l : List Tok} (h : TRow base w v l) (hb : base' ≤ base) : TRow base' w v l := row_mono h hb
theorem TRow.get {base : Nat} {w : World} {ao : Option Addr} {cap : Nat} {l : List Tok} (h : TRow base w (.slice ao l.length cap) l) {i : Nat} (hi : i < l.length) :
    ∃ g, ao = some ⟨g, 0, none⟩ ∧ base ≤ g ∧ g < w.heap.size ∧ w.cell? ⟨g, i * 3, none⟩ = some (.int .i64 (l[i].kind : Int)) ∧ w.cell? ⟨g, i * 3 + 1, none⟩ = some (.int .i64 (l[i].at' : Int)) ∧ w.cell? ⟨g, i * 3 + 2, none⟩ = some (.string (txt l[i].text)) := by
  have h' : w.ownsRow base 40 3 (.slice ao l.length cap) l.length (tokCells l) := h
  obtain ⟨g, cap', hv, hb, hlt⟩ := h'.form (by omega)
  obtain ⟨rfl, _, rfl⟩ : ao = some ⟨g, 0, none⟩ ∧ l.length = l.length ∧ cap = cap' := by simpa using hv
  have hc := fun j hj => h'.cellAt j hj
  obtain ⟨a1, a2, a3⟩ := tokCells_at hi
  have hl := tokCells_length l
  refine ⟨g, rfl, hb, hlt, ?_, ?_, ?_⟩
  · rw [hc _ (by omega), a1]
  · rw [hc _ (by omega), a2]
  · rw [hc _ (by omega), a3]
theorem info_Token : (Try.prog.info? 40).map (fun i => (i.zero, i.size, i.bytes)) = some (some (.agg #[.int .i64 0, .int .i64 0, .string ByteArray.empty]), 3, 32) := by kernel_rfl
/-- append of one token to a row of the call's own. -/
theorem wpList_tok {w0 : World} {ops : Array Oper} {rest : List Oper} {o : Oper} {a : Act} {Q : Exit → Act → World → Prop} (hgd : o.guard = none) (s x : Operand)
    (ho : o.op = .call { callee := .builtin .append, args := #[s, x], argTypes := #[25, 25] })
    (base : Nat) (l : List Tok) (v : Value) (hs : a.eval s = v) (hr : TRow base w0 v l) (kz az : Int) (sz : ByteArray) (y : Tok) (hy : tokV y = [.int .i64 kz, .int .i64 az, .string sz]) (hx : a.eval x = .slice (some ⟨w0.heap.size, 0, none⟩) 1 1) (hb : base ≤ w0.heap.size) (hsz : l.length ≤ 100000)
    (h : ∀ g cap w', TRow base w' (.slice (some ⟨g, 0, none⟩) (l.length + 1) cap) (l ++ [y]) → Kept (fun k => v.ownBlock = some k) w0 w' → (v.ownBlock = some g ∨ w0.heap.size ≤ g) → wpList Try.prog ops Q rest (a.put o.dst (.slice (some ⟨g, 0, none⟩) (l.length + 1) cap)) w') :
    wpList Try.prog ops Q (o :: rest) a (w0.alloc (.cells #[.int .i64 kz, .int .i64 az, .string sz] 40)) := by
  obtain ⟨i, hi, hz0, hz1, hz2⟩ := info_parts info_Token
  refine wpList_append_lies _ hgd s x 25 ho base 40 i _ 3 32 Try.underlying25 hi hz0 hz1 hz2 rfl (by decide) v l.length (tokCells l) hs (World.ownsRow.alloc hr _) ⟨w0.heap.size, 0, none⟩ 1 1 [.int .i64 kz, .int .i64 az, .string sz] hx rfl (World.news_of_block (cs := #[.int .i64 kz, .int .i64 az, .string sz]) (t := 40) (fr := (0, 0)) (heap_alloc_new w0 _)) (by simp [Value.oneCell']) (by omega) (by unfold maxLen; omega) (by omega) (by simp; omega) (w0.heap.size + 1) (by simp) ?_
  intro g cap w' hown hgrow hat hlt
  refine h g cap w' ?_ ?_ (hat.imp id (fun e => by omega))
  · unfold TRow; rw [tokCells_snoc, hy, List.length_append]; exact hown
  · exact Kept.grown (Kept.alloc (Kept.refl _ w0) _) hgrow (fun _ e _ => e)
/-- What a scanner has found, ahead of the rest. -/
def pre (acc : List Tok) (R : Except (Nat × Nat) (List Tok)) : Except (Nat × Nat) (List Tok) := R.map (fun l => acc ++ l)
theorem pre_nil (R : Except (Nat × Nat) (List Tok)) : pre [] R = R := by cases R <;> rfl
theorem pre_map (acc : List Tok) (x : Tok) (R : Except (Nat × Nat) (List Tok)) : pre acc (R.map (fun l => x :: l)) = pre (acc ++ [x]) R := by cases R <;> simp [pre, Except.map]
theorem pre_error (acc : List Tok) (e : Nat × Nat) : pre acc (.error e) = .error e := rfl
theorem pre_ok (acc l : List Tok) : pre acc (.ok l) = .ok (acc ++ l) := rfl
end Go.Proofs.Ytecbfnaeglkbaaa
