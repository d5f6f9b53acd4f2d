import Derived.Test.YtbjfpfnfbgncnaaGreatDoorM04
import Derived.OwnWalk
import Derived.Handy
import Derived.KernelRfl
/- Rows of tokens in memory; append of one token; what an answer of a scanner is. -/
namespace Go.Proofs.YtbjfpfnfbgncnaaGreatDoor
open Go.RowKit
set_option linter.unusedVariables false
theorem Kept.iterAt {w : World} {k : Nat} (s : ByteArray) (p : Nat) : Kept (fun i => i = k) w (w.iterAt k s p) :=
  ⟨rfl, rfl, rfl, by rw [Lib.iterAt_size]; exact Nat.le_refl _, fun i _ hn => Lib.iterAt_other w k i s p hn⟩
/-- Bytes as a string. -/
def txt (l : List UInt8) : ByteArray := ⟨l.toArray⟩
theorem txt_of {s : ByteArray} {l : List UInt8} (h : s.data.toList = l) : s = txt l := by subst h; rfl
theorem txt_list (l : List UInt8) : (txt l).data.toList = l := by simp [txt]
theorem txt_inj {a b : List UInt8} (h : txt a = txt b) : a = b := by rw [← txt_list a, ← txt_list b, h]
theorem txt_size (l : List UInt8) : (txt l).size = l.length := by rw [size_list, txt_list]
def tokV (x : Tok) : List Value := [.int .i64 (x.kind : Int), .int .i64 (x.at' : Int), .string (txt x.text)]
def tokCells (l : List Tok) : List Value := l.flatMap tokV
theorem tokCells_snoc (l : List Tok) (x : Tok) : tokCells (l ++ [x]) = tokCells l ++ tokV x := by simp [tokCells]
theorem tokCells_length (l : List Tok) : (tokCells l).length = l.length * 3 := by
  induction l with
  | nil => rfl
  | cons x r ih => simp [tokCells, tokV] at ih ⊢; omega
theorem tokCells_at {l : List Tok} {i : Nat} (h : i < l.length) : (tokCells l)[i * 3]? = some (.int .i64 (l[i].kind : Int)) ∧ (tokCells l)[i * 3 + 1]? = some (.int .i64 (l[i].at' : Int)) ∧ (tokCells l)[i * 3 + 2]? = some (.string (txt l[i].text)) := by
  induction l generalizing i with
  | nil => simp at h
  | cons x r ih =>
    have e : tokCells (x :: r) = .int .i64 (x.kind : Int) :: .int .i64 (x.at' : Int) :: .string (txt x.text) :: tokCells r := by simp [tokCells, tokV]
    rw [e]
    cases i with
    | zero => simp
    | succ j =>
      obtain ⟨a, b, c⟩ := ih (i := j) (by simpa using h)
      have e1 : (j + 1) * 3 = j * 3 + 1 + 1 + 1 := by omega
      refine ⟨?_, ?_, ?_⟩
      · rw [e1]; simpa using a
      · rw [e1, show j * 3 + 1 + 1 + 1 + 1 = j * 3 + 1 + 1 + 1 + 1 by rfl]; simpa using b
      · rw [e1, show j * 3 + 1 + 1 + 1 + 2 = (j * 3 + 2) + 1 + 1 + 1 by omega]; simpa using c
/-- A row of tokens, the call's own. -/
def TRow (base : Nat) (w : World) (v : Value) (l : List Tok) : Prop := w.ownsRow base 113 3 v l.length (tokCells l)
theorem TRow.kept {base : Nat} {w w' : World} {v : Value} {l : List Tok} {S : Nat → Prop} (h : TRow base w v l) (hk : Kept S w w') (hs : ∀ k, base ≤ k → ¬ S k) : TRow base w' v l := by
  refine hk.row h (fun k e => ?_)
  rcases h.2 with ⟨rfl, _⟩ | ⟨g, cap, cur, rfl, hb, _⟩
  · simp [Value.ownBlock] at e
  · simp [Value.ownBlock] at e; subst e; exact hs _ hb
theorem TRow.same {base : Nat} {w w' : World} {v : Value} {l : List Tok} (h : TRow base w v l) (hk : Same0 w w') : TRow base w' v l := h.kept hk (fun _ _ f => f)
theorem TRow.keptRow {base : Nat} {w w' : World} {v : Value} {l : List Tok} {S : Nat → Prop} (h : TRow base w v l) (hk : Kept S w w') (hs : ∀ k, v.ownBlock = some k → ¬ S k) : TRow base w' v l := hk.row h hs
theorem TRow.own {base : Nat} {w : World} {v : Value} {l : List Tok} (h : TRow base w v l) {k : Nat} (e : v.ownBlock = some k) : base ≤ k ∧ k < w.heap.size := by
  rcases h.2 with ⟨rfl, _⟩ | ⟨g, cap, cur, rfl, hb, hg, _⟩
  · simp [Value.ownBlock] at e
  · simp [Value.ownBlock] at e; subst e; exact ⟨hb, lt_of_at hg⟩
theorem TRow.nil (base : Nat) (w : World) : TRow base w (.slice none 0 0) [] := ⟨by simp [tokCells], .inl ⟨rfl, rfl⟩⟩
theorem TRow.mono {base base' : Nat} {w : World} {v : Value} {l : List Tok} (h : TRow base w v l) (hb : base' ≤ base) : TRow base' w v l := row_mono h hb
theorem TRow.get {base : Nat} {w : World} {ao : Option Addr} {cap : Nat} {l : List Tok} (h : TRow base w (.slice ao l.length cap) l) {i : Nat} (hi : i < l.length) :
    ∃ g, ao = some ⟨g, 0, none⟩ ∧ base ≤ g ∧ g < w.heap.size ∧ w.cell? ⟨g, i * 3, none⟩ = some (.int .i64 (l[i].kind : Int)) ∧ w.cell? ⟨g, i * 3 + 1, none⟩ = some (.int .i64 (l[i].at' : Int)) ∧ w.cell? ⟨g, i * 3 + 2, none⟩ = some (.string (txt l[i].text)) := by
  have h' : w.ownsRow base 113 3 (.slice ao l.length cap) l.length (tokCells l) := h
  obtain ⟨g, cap', hv, hb, hlt⟩ := h'.form (by omega)
  obtain ⟨rfl, _, rfl⟩ : ao = some ⟨g, 0, none⟩ ∧ l.length = l.length ∧ cap = cap' := by simpa using hv
  have hc := fun j hj => h'.cellAt j hj
  obtain ⟨a1, a2, a3⟩ := tokCells_at hi
  have hl := tokCells_length l
  refine ⟨g, rfl, hb, hlt, ?_, ?_, ?_⟩
  · rw [hc _ (by omega), a1]
  · rw [hc _ (by omega), a2]
  · rw [hc _ (by omega), a3]
theorem info_Token : (Tryz.prog.info? 113).map (fun i => (i.zero, i.size, i.bytes)) = some (some (.agg #[.int .i64 0, .int .i64 0, .string ByteArray.empty]), 3, 32) := by kernel_rfl
/-- append of one token to a row of the call's own. -/
theorem wpList_tok {w0 : World} {ops : Array Oper} {rest : List Oper} {o : Oper} {a : Act} {Q : Exit → Act → World → Prop} (hgd : o.guard = none) (s x : Operand)
    (ho : o.op = .call { callee := .builtin .append, args := #[s, x], argTypes := #[105, 105] })
    (base : Nat) (l : List Tok) (v : Value) (hs : a.eval s = v) (hr : TRow base w0 v l) (kz az : Int) (sz : ByteArray) (y : Tok) (hy : tokV y = [.int .i64 kz, .int .i64 az, .string sz]) (hx : a.eval x = .slice (some ⟨w0.heap.size, 0, none⟩) 1 1) (hb : base ≤ w0.heap.size) (hsz : l.length ≤ 100000)
    (h : ∀ g cap w', TRow base w' (.slice (some ⟨g, 0, none⟩) (l.length + 1) cap) (l ++ [y]) → Kept (fun k => v.ownBlock = some k) w0 w' → (v.ownBlock = some g ∨ w0.heap.size ≤ g) → wpList Tryz.prog ops Q rest (a.put o.dst (.slice (some ⟨g, 0, none⟩) (l.length + 1) cap)) w') :
    wpList Tryz.prog ops Q (o :: rest) a (w0.alloc (.cells #[.int .i64 kz, .int .i64 az, .string sz] 113)) := by
  obtain ⟨i, hi, hz0, hz1, hz2⟩ := info_parts info_Token
  refine wpList_append_lies _ hgd s x 105 ho base 113 i _ 3 32 Tryz.underlying105 hi hz0 hz1 hz2 rfl (by decide) v l.length (tokCells l) hs (World.ownsRow.alloc hr _) ⟨w0.heap.size, 0, none⟩ 1 1 [.int .i64 kz, .int .i64 az, .string sz] hx rfl (World.news_of_block (cs := #[.int .i64 kz, .int .i64 az, .string sz]) (t := 113) (fr := (0, 0)) (heap_alloc_new w0 _)) (by simp [Value.oneCell']) (by omega) (by unfold maxLen; omega) (by omega) (by simp; omega) (w0.heap.size + 1) (by simp) ?_
  intro g cap w' hown hgrow hat hlt
  refine h g cap w' ?_ ?_ (hat.imp id (fun e => by omega))
  · unfold TRow; rw [tokCells_snoc, hy, List.length_append]; exact hown
  · exact Kept.grown (Kept.alloc (Kept.refl _ w0) _) hgrow (fun _ e _ => e)
/-- What a scanner has found, ahead of the rest. -/
def pre (acc : List Tok) (R : Except (Nat × Nat) (List Tok)) : Except (Nat × Nat) (List Tok) := R.map (fun l => acc ++ l)
theorem pre_nil (R : Except (Nat × Nat) (List Tok)) : pre [] R = R := by cases R <;> rfl
theorem pre_map (acc : List Tok) (x : Tok) (R : Except (Nat × Nat) (List Tok)) : pre acc (R.map (fun l => x :: l)) = pre (acc ++ [x]) R := by cases R <;> simp [pre, Except.map]
theorem pre_error (acc : List Tok) (e : Nat × Nat) : pre acc (.error e) = .error e := rfl
theorem pre_ok (acc l : List Tok) : pre acc (.ok l) = .ok (acc ++ l) := rfl
end Go.Proofs.YtbjfpfnfbgncnaaGreatDoor
/- The walk of the program's Scan: it answers what the plain words say. -/
namespace Go.Proofs.YtbjfpfnfbgncnaaGreatDoor
open Go.RowKit
set_option linter.unusedVariables false
/-- A Fault of that number at that place, with nothing behind it. -/
def FaultAt (base : Nat) (w : World) (er : Value) (c p : Nat) : Prop := ∃ b, er = .iface 83 (.pointer (some ⟨b, 0, none⟩)) ∧ base ≤ b ∧ w.heap[b]? = some (.cells #[.int .i64 (c : Int), .int .i64 (p : Int), .nilIface] 86 (0, 0))
theorem FaultAt.kept {base : Nat} {w w' : World} {er : Value} {c p : Nat} {S : Nat → Prop} (h : FaultAt base w er c p) (hk : Kept S w w') (hs : ∀ b, er = .iface 83 (.pointer (some ⟨b, 0, none⟩)) → ¬ S b) : FaultAt base w' er c p := by
  obtain ⟨b, e, hb, hc⟩ := h
  exact ⟨b, e, hb, hk.at hc (hs b e)⟩
theorem FaultAt.same {base : Nat} {w w' : World} {er : Value} {c p : Nat} (h : FaultAt base w er c p) (hk : Same0 w w') : FaultAt base w' er c p := h.kept hk (fun _ _ f => f)
/-- The answer of the program's Scan. -/
def ToldL (base : Nat) (w : World) (v er : Value) (R : Except (Nat × Nat) (List Tok)) : Prop := match R with
  | .ok l => TRow base w v l ∧ er = .nilIface
  | .error (c, p) => v = .slice none 0 0 ∧ FaultAt base w er c p
theorem ToldL.same {base : Nat} {w w' : World} {v er : Value} {R : Except (Nat × Nat) (List Tok)} (h : ToldL base w v er R) (hk : Same0 w w') : ToldL base w' v er R := by
  cases R with
  | ok l => exact ⟨h.1.same hk, h.2⟩
  | error e => exact ⟨h.1, h.2.same hk⟩
set_option maxHeartbeats 4000000 in
theorem scan_long (s : ByteArray) (w : World) (hs : s.size ≤ maxLen) (h1 : 20000 < s.size) :
    Calls Tryz.prog 50 #[.string s] w fun e w' => ∃ v er, e = .returned (.tuple #[v, er]) ∧ ToldL w.heap.size w' v er (scanL s.data.toList) ∧ Same0 w w' := by
  unfold maxLen at hs
  have d1 : (20000 : Int) < (s.size : Int) := by omega
  have H : Hid (scanL s.data.toList = .error (30, 0)) := by
    show _ = _
    unfold scanL
    rw [if_pos (by rw [← size_list]; exact h1)]
  go_enter Tryz.func50, Tryz.ntmps50
  go_wp2
  go_ret2
  refine ⟨_, _, rfl, ?_, Kept.alloc (Kept.refl _ w) _⟩
  rw [H.out]
  exact ⟨rfl, w.heap.size, rfl, Nat.le_refl _, heap_alloc_new w _⟩
/-- What holds at a rune's head. -/
structure At3 (s : ByteArray) (w wr : World) (v : Value) (pos q : Nat) (acc : List Tok) : Prop where
  row : TRow (w.heap.size + 1) wr v acc
  it : wr.heap[w.heap.size]? = some (.stringIter s pos)
  same : Same0 w wr
  reach : Reach s pos q
  le : q ≤ s.size
  few : acc.length ≤ q
  eq : lexF 0 s.data.toList = pre acc (lexF q (s.data.toList.drop q))
theorem tail_list (s : ByteArray) (q : Nat) : (tail s q).data.toList = s.data.toList.drop q := by
  simp [tail]
  exact List.take_of_length_le (by simp)
theorem At3.start (s : ByteArray) (w : World) : At3 s w (w.iter s 0) (.slice none 0 0) 0 0 [] :=
  ⟨TRow.nil _ _, World.iter_heap w s 0, Kept.alloc (Kept.refl _ w) _, .refl _, Nat.zero_le _, by simp, by rw [pre_nil, List.drop_zero]⟩
/-- Behind 'next'. -/
theorem At3.next {s : ByteArray} {w wr : World} {v : Value} {pos q : Nat} {acc : List Tok} (h : At3 s w wr v pos q acc) (p' : Nat) :
    TRow (w.heap.size + 1) (wr.iterAt w.heap.size s p') v acc ∧ (wr.iterAt w.heap.size s p').heap[w.heap.size]? = some (.stringIter s p') ∧ Same0 w (wr.iterAt w.heap.size s p') := by
  refine ⟨h.row.kept (Kept.iterAt s p') (fun k hk e => by omega), Lib.iterAt_heap wr _ s pos p' h.it, ?_⟩
  exact h.same.trans (Kept.iterAt s p') (fun i hi e => by omega)
theorem At3.skip {s : ByteArray} {w wr : World} {v : Value} {pos q : Nat} {acc : List Tok} (h : At3 s w wr v pos q acc) (hp : pos < q) : At3 s w (wr.iterAt w.heap.size s (pos + wd s pos)) v (pos + wd s pos) q acc := by
  obtain ⟨a, b, c⟩ := h.next (pos + wd s pos)
  exact ⟨a, b, c, h.reach.next hp, h.le, h.few, h.eq⟩
/-- Behind a call that turns nothing old. -/
theorem At3.after {s : ByteArray} {w wr w2 : World} {v : Value} {pos q : Nat} {acc : List Tok} (h : At3 s w wr v pos q acc) (hk : Same0 (wr.iterAt w.heap.size s (pos + wd s pos)) w2) :
    TRow (w.heap.size + 1) w2 v acc ∧ w2.heap[w.heap.size]? = some (.stringIter s (pos + wd s pos)) ∧ Same0 w w2 := by
  obtain ⟨a, b, c⟩ := h.next (pos + wd s pos)
  exact ⟨a.same hk, hk.at0 b, c.trans' hk⟩
/-- What a piece says. -/
structure Goes (s : ByteArray) (pos n : Nat) (acc : List Tok) (k : Int) (p : ByteArray) : Prop where
  pos1 : 1 ≤ n
  le : pos + n ≤ s.size
  reach : Reach s (pos + wd s pos) (pos + n)
  size : p.size = n
  bad : refZ k p ≠ 0 → lexF 0 s.data.toList = .error ((refZ k p).toNat, pos) ∧ 0 < refZ k p
  tok : refZ k p = 0 → 0 < k → ∃ x : Tok, tokV x = [.int .i64 k, .int .i64 (pos : Int), .string p] ∧ lexF 0 s.data.toList = pre (acc ++ [x]) (lexF (pos + n) (s.data.toList.drop (pos + n)))
  none : refZ k p = 0 → ¬ 0 < k → lexF 0 s.data.toList = pre acc (lexF (pos + n) (s.data.toList.drop (pos + n)))
theorem At3.goes {s : ByteArray} {w wr : World} {v : Value} {pos n : Nat} {acc : List Tok} (h : At3 s w wr v pos pos acc) (hp : pos < s.size) (hP : Piece (begunZ (ru s pos : Int)) (s.extract pos s.size) n) :
    Goes s pos n acc (begunZ (ru s pos : Int)) ((s.extract pos s.size).extract 0 n) := by
  have hP : Piece (begunZ (ru s pos : Int)) (tail s pos) n := hP
  show Goes s pos n acc (begunZ (ru s pos : Int)) ((tail s pos).extract 0 n)
  have hts := tail_size s pos (by omega)
  have hru : ru s pos = ru (tail s pos) 0 := by unfold ru; rw [decode_tail s pos 0 (by omega)]; rfl
  have hP' := hP
  rw [hru] at hP'
  have h0 : 0 < (tail s pos).size := by omega
  have hc := cut_text (q := pos) h0 hP'
  rw [← hru] at hc
  have hle := hP.le
  have hrc := Reach.tail (Nat.le_of_lt hp) hP.reach
  have hn := hP.pos
  have hl : (tail s pos)[0] :: (tail s pos).data.toList.drop 1 = s.data.toList.drop pos := by rw [← list_head h0, tail_list]
  have hd : (s.data.toList.drop pos).drop n = s.data.toList.drop (pos + n) := by rw [List.drop_drop]
  have htk : ((tail s pos).extract 0 n).data.toList = (s.data.toList.drop pos).take n := by rw [← tail_list]; simp
  have hsz : ((tail s pos).extract 0 n).size = n := by simp; omega
  have hlt : pos < pos + n := by omega
  refine ⟨hn, by omega, ?_, hsz, ?_, ?_, ?_⟩
  · exact Reach.next (by simpa using hrc) hlt
  · intro e
    obtain ⟨e1, e2⟩ := hc.bad e
    rw [hl] at e1
    exact ⟨by rw [h.eq, e1, pre_error], e2⟩
  · intro e hk
    have e1 := hc.tok e hk
    rw [hl, hd] at e1
    refine ⟨⟨(begunZ (ru s pos : Int)).toNat, pos, (s.data.toList.drop pos).take n⟩, ?_, ?_⟩
    · simp only [tokV]
      rw [← txt_of htk, Int.toNat_of_nonneg (by omega)]
    · rw [h.eq, e1, pre_map]
  · intro e hk
    have e1 := hc.none e hk
    rw [hl, hd] at e1
    rw [h.eq, e1]
set_option maxHeartbeats 4000000 in
theorem scan_short (s : ByteArray) (w : World) (hs : s.size ≤ 20000) :
    Calls Tryz.prog 50 #[.string s] w fun e w' => ∃ v er, e = .returned (.tuple #[v, er]) ∧ ToldL w.heap.size w' v er (scanL s.data.toList) ∧ Same0 w w' := by
  have d1 : ¬ (20000 : Int) < (s.size : Int) := by omega
  have H : Hid (scanL s.data.toList = lexF 0 s.data.toList) := by
    show _ = _
    unfold scanL
    rw [if_neg (by rw [← size_list]; omega)]
  go_enter Tryz.func50, Tryz.ntmps50
  go_wp2
  go_loopw [4, 5] (fun v b wr => ∃ (pos q : Nat) (acc : List Tok), b = .int .i64 (q : Int) ∧ At3 s w wr v pos q acc) (fun _ _ wr => s.size - wr.iterPos w.heap.size)
  case atStart => exact ⟨0, 0, [], rfl, At3.start s w⟩
  case round =>
    obtain ⟨pos, q, acc, rfl, hA⟩ := hrel
    have hit := hA.it
    by_cases hp : pos < s.size
    · have hnx : ∀ ty, (Instr.next (.pointer (some ⟨w.heap.size, 0, none⟩)) true ty).run Tryz.prog wr = .ok (.tuple #[.bool true, .int .i64 pos, .int .i32 (ru s pos)]) (wr.iterAt w.heap.size s (pos + wd s pos)) := fun ty => Lib.run_next_any_at wr w.heap.size s pos ty hit hp
      have hwd := wd_pos hp
      obtain ⟨hr2, hit2, hs2⟩ := hA.next (pos + wd s pos)
      by_cases hlt : pos < q
      · have hN := hA.skip hlt
        have hms : s.size - (wr.iterAt w.heap.size s (pos + wd s pos)).iterPos w.heap.size < s.size - wr.iterPos w.heap.size := by
          simp only [World.iterPos, hit2, hit]; omega
        clear hit2 hit
        go_wp2
        go_roundw
        case rel => exact ⟨_, q, acc, rfl, hN⟩
        case measure => exact hms
      · obtain rfl : pos = q := by have := hA.reach.le; omega
        have i1 : (0 : Int) ≤ (pos : Int) := by omega
        have i2 : (pos : Int) < (s.size : Int) := by omega
        have hts : (s.extract pos s.size).size = s.size - pos := tail_size s pos (by omega)
        have hts0 : 0 < (s.extract pos s.size).size := by omega
        have hts1 : (s.extract pos s.size).size ≤ 20000 := by omega
        have HT : Hid ((s.extract pos s.size).size = s.size - pos) := hts
        have hms : ∀ w2 : World, w2.heap[w.heap.size]? = some (.stringIter s (pos + wd s pos)) → s.size - w2.iterPos w.heap.size < s.size - wr.iterPos w.heap.size := by
          intro w2 h2
          simp only [World.iterPos, h2, hit]; omega
        have HM : Hid (∀ w2 : World, w2.heap[w.heap.size]? = some (.stringIter s (pos + wd s pos)) → s.size - w2.iterPos w.heap.size < s.size - wr.iterPos w.heap.size) := hms
        have hfew := hA.few
        clear hit2 hit hr2 hs2 hts hms
        go_wp2_with (first | (go_at_call 77; refine (begun_any _ _).mono ?_; rintro e w' ⟨rfl, rfl⟩) | (go_at_call 78; refine (first_any _ _ _ hts1 hts0).mono ?_; rintro e w2 ⟨⟨n, rfl, hP⟩, hb2⟩))
        have hG := hA.goes hp hP
        have hs2 := Same0.of_below hb2
        obtain ⟨hrow2, hit2, hsm2⟩ := hA.after hs2
        have HI : Hid (w2.heap[w.heap.size]? = some (.stringIter s (pos + wd s pos))) := hit2
        have hpz : 0 < ((s.extract pos s.size).extract 0 n).size := by rw [hG.size]; exact hG.pos1
        have hpm : ((s.extract pos s.size).extract 0 n).size ≤ 20000 := by rw [hG.size]; have := hG.le; omega
        have hn2 := hG.le
        have hn1 := hG.pos1
        obtain ⟨pc, hpc⟩ : ∃ pc, (s.extract pos s.size).extract 0 n = pc := ⟨_, rfl⟩
        obtain ⟨kz, hkz⟩ : ∃ kz, begunZ (ru s pos : Int) = kz := ⟨_, rfl⟩
        rw [hpc] at hG hpz hpm ⊢
        rw [hkz] at hG ⊢
        have hps : Hid (pc.size = n) := hG.size
        clear hpc hkz hP hs2 hb2 hit2
        by_cases hz : refZ kz pc = 0
        · by_cases hk : 0 < kz
          · obtain ⟨x, hx, hE⟩ := hG.tok hz hk
            have HE : Hid (lexF 0 s.data.toList = pre (acc ++ [x]) (lexF (pos + n) (s.data.toList.drop (pos + n)))) := hE
            have HX : Hid (tokV x = [.int .i64 kz, .int .i64 (pos : Int), .string pc]) := hx
            clear hE hx
            have hrc := hG.reach
            clear hG
            have hlen : acc.length ≤ 100000 := by omega
            go_wp2_with (first | (go_at_call 79; refine (lrefusal_any _ _ _ hpz hpm).mono ?_; rintro e w' ⟨rfl, rfl⟩) | (go_at_call 80; refine (isToken_any _ _).mono ?_; rintro e w' ⟨rfl, rfl⟩) | (go_at_call 81; refine (sclone_any _ _ hpm).mono ?_; rintro e w3 ⟨rfl, hb3⟩; have hrow3 := hrow2.same (Same0.of_below hb3); have hbs : w.heap.size + 1 ≤ w3.heap.size := lt_of_at ((Same0.of_below hb3).at0 HI.out)) | (at_builtin; refine wpList_tok rfl _ _ rfl (w.heap.size + 1) acc _ rfl hrow3 kz (pos : Int) pc x HX.out rfl hbs hlen ?_; intro g gcap w4 hr4 hk4 hat4))
            have hs3 := Same0.of_below hb3
            have HI3 : Hid (w3.heap[w.heap.size]? = some (.stringIter s (pos + wd s pos))) := hs3.at0 HI.out
            have hsm3 := hsm2.trans' hs3
            have hit4 : w4.heap[w.heap.size]? = some (.stringIter s (pos + wd s pos)) := hk4.at HI3.out (fun e => by have := (hrow3.own e).1; omega)
            have hN : At3 s w w4 (.slice (some ⟨g, 0, none⟩) (acc.length + 1) gcap) (pos + wd s pos) (pos + n) (acc ++ [x]) := ⟨hr4, hit4, hsm3.trans hk4 (fun i hi e => by have := (hrow3.own e).1; omega), hrc, hn2, by simp; omega, HE.out⟩
            have HM4 := HM.out _ hit4
            clear hit4
            go_roundw
            case rel => exact ⟨_, pos + n, acc ++ [x], by rw [hps.out]; go_num, hN⟩
            case measure => exact HM4
          · have hE := hG.none hz hk
            have HE : Hid (lexF 0 s.data.toList = pre acc (lexF (pos + n) (s.data.toList.drop (pos + n)))) := hE
            clear hE
            have hN : At3 s w w2 u4 (pos + wd s pos) (pos + n) acc := ⟨hrow2, HI.out, hsm2, hG.reach, hn2, by omega, HE.out⟩
            clear hG HE
            go_wp2_with (first | (go_at_call 79; refine (lrefusal_any _ _ _ hpz hpm).mono ?_; rintro e w' ⟨rfl, rfl⟩) | (go_at_call 80; refine (isToken_any _ _).mono ?_; rintro e w' ⟨rfl, rfl⟩))
            go_roundw
            case rel => exact ⟨_, pos + n, acc, by rw [hps.out]; go_num, hN⟩
            case measure => exact HM.out _ HI.out
        · obtain ⟨hE, hpos⟩ := hG.bad hz
          have HE : Hid (lexF 0 s.data.toList = .error ((refZ kz pc).toNat, pos)) := hE
          clear hE hG
          go_wp2_with (first | (go_at_call 79; refine (lrefusal_any _ _ _ hpz hpm).mono ?_; rintro e w' ⟨rfl, rfl⟩))
          go_ret2
          refine ⟨_, _, rfl, ?_, Kept.alloc hsm2 _⟩
          rw [H.out, HE.out]
          refine ⟨rfl, _, rfl, hsm2.size, ?_⟩
          rw [Int.toNat_of_nonneg (by omega)]
          exact heap_alloc_new _ _
    · have hnx : ∀ ty, (Instr.next (.pointer (some ⟨w.heap.size, 0, none⟩)) true ty).run Tryz.prog wr = .ok (.tuple #[.bool false]) wr := fun ty => Lib.run_next_end_at wr w.heap.size s pos ty hit hp
      obtain rfl : q = s.size := by have := hA.reach.le; have := hA.le; omega
      have hE : lexF 0 s.data.toList = .ok (acc ++ [⟨13, s.size, []⟩]) := by
        rw [hA.eq, List.drop_of_length_le (by rw [← size_list]; exact Nat.le_refl _), lexF_nil, pre_ok]
      have HE : Hid (lexF 0 s.data.toList = .ok (acc ++ [⟨13, s.size, []⟩])) := hE
      have hbs : w.heap.size + 1 ≤ wr.heap.size := by have := lt_of_at hit; omega
      have hlen : acc.length ≤ 100000 := by have := hA.few; omega
      have hrow := hA.row
      have hsm := hA.same
      clear hE hit hA
      go_wp2_with (first | (at_builtin; refine wpList_tok rfl _ _ rfl (w.heap.size + 1) acc _ rfl hrow 13 (s.size : Int) ⟨#[]⟩ ⟨13, s.size, []⟩ rfl rfl hbs hlen ?_; intro g gcap w4 hr4 hk4 hat4))
      go_ret2
      refine ⟨_, _, rfl, ?_, hsm.trans hk4 (fun i hi e => by have := (hrow.own e).1; omega)⟩
      rw [H.out, HE.out]
      exact ⟨(hr4.mono (by omega)), rfl⟩
theorem scan_any (s : ByteArray) (w : World) (hs : s.size ≤ maxLen) :
    Calls Tryz.prog 50 #[.string s] w fun e w' => ∃ v er, e = .returned (.tuple #[v, er]) ∧ ToldL w.heap.size w' v er (scanL s.data.toList) ∧ Same0 w w' := by
  by_cases h : 20000 < s.size
  · exact scan_long s w hs h
  · exact scan_short s w (by omega)
end Go.Proofs.YtbjfpfnfbgncnaaGreatDoor
