import Derived.Test.YtbjfpfnfbgncnaaGreatDoorM20
import Derived.Test.YtbjfpfnfbgncnaaGreatDoorM17
import Derived.OwnWalk
/- The walks of the reader's declarations. -/
namespace Go.Proofs.YtbjfpfnfbgncnaaGreatDoor
open Go.RowKit
set_option linter.unusedVariables false
set_option maxRecDepth 100000
def oneD (ts : List Tok) (a : List Dc) : Except Nat (List Dc × List Tok) := match wordF ts with
  | .error p => .error p
  | .ok (d, q) => rowR (oneDecl d) 6 q.length q a
def thenD (j : Nat) : Except Nat (List Dc × List Tok) → Except Nat (List Dc × List Tok)
  | .error p => .error p
  | .ok (a, r) => rowC oneD 7 j a r
theorem thenD_row (j : Nat) (ts : List Tok) (a : List Dc) : rowR oneD 7 (j + 1) ts a = thenD j (oneD ts a) := by
  cases h : oneD ts a with
  | error p => rw [rowR_error h]; rfl
  | ok v => obtain ⟨a', r⟩ := v; rw [rowR_ok h]; rfl
theorem wordF_lt {ts q : List Tok} {d : Bool} (h : wordF ts = .ok (d, q)) : q.length < ts.length := by
  cases ts with
  | nil => simp [wordF] at h
  | cons t r =>
    simp only [wordF] at h
    repeat' split at h
    all_goals first | (cases h; simp; done) | cases h
theorem decls_flat (L : Nat) : ∀ (q : List Tok) (d : Bool) (a : List Dc) (n k j : Nat), q.length ≤ L → q.length ≤ n → q.length ≤ k → q.length ≤ j → thenD j (rowR (oneDecl d) 6 k q a) = (symsF n d q).map (fun v => (a ++ v.1, v.2)) := by
  induction L using Nat.strongRecOn with
  | _ L ih =>
    intro q d a n k j hL hn hk hj
    cases hD : declF d q with
    | error p =>
      have e1 : oneDecl d q a = .error p := by simp [oneDecl, hD]
      cases k with
      | zero =>
        have : q = [] := List.eq_nil_of_length_eq_zero (by omega)
        subst this
        simp [declF] at hD
        subst hD
        cases n with
        | zero => rfl
        | succ n => simp [rowR, thenD, symsF, declF, Except.map]
      | succ k =>
        rw [rowR_error e1]
        cases n with
        | zero =>
          have : q = [] := List.eq_nil_of_length_eq_zero (by omega)
          subst this
          simp [declF] at hD
          subst hD
          rfl
        | succ n => simp [thenD, symsF, hD, Except.map]
    | ok v =>
      obtain ⟨x, r⟩ := v
      have hlt := declF_lt hD
      have e1 : oneDecl d q a = .ok (a ++ [x], r) := by simp [oneDecl, hD]
      obtain ⟨k, rfl⟩ : ∃ m, k = m + 1 := ⟨k - 1, by omega⟩
      obtain ⟨n, rfl⟩ : ∃ m, n = m + 1 := ⟨n - 1, by omega⟩
      rw [rowR_ok e1]
      cases r with
      | nil => simp [rowC, thenD, symsF, hD, Except.map]
      | cons c r =>
        simp only [List.length_cons] at hlt
        by_cases h6 : c.kind = 6
        · simp only [rowC, h6, if_true, symsF, hD]
          rw [ih r.length (by omega) r d (a ++ [x]) n k j (Nat.le_refl _) (by omega) (by omega) (by omega)]
          cases symsF n d r <;> simp [Except.map]
        · by_cases h7 : c.kind = 7
          · obtain ⟨j, rfl⟩ : ∃ m, j = m + 1 := ⟨j - 1, by omega⟩
            simp only [rowC, h7, if_true, thenD, symsF, hD, show ¬ (7 : Nat) = 6 by omega, if_false]
            rw [thenD_row]
            cases hW : wordF r with
            | error p => simp [oneD, hW, thenD, Except.map]
            | ok v =>
              obtain ⟨b, q'⟩ := v
              have hwl := wordF_lt hW
              simp only [oneD, hW]
              rw [ih q'.length (by omega) q' b (a ++ [x]) n q'.length j (Nat.le_refl _) (by omega) (Nat.le_refl _) (by omega)]
              cases symsF n b q' <;> simp [Except.map]
          · simp [rowC, h6, h7, thenD, symsF, hD, Except.map]
def DeclsA (w0 : World) (rb tb rv vb : Nat) (a : List Dc) (wc : World) : Prop := ∃ lv, Col 96 138 4 w0 rb tb rv vb a.length (dcCells a) wc lv
set_option maxHeartbeats 4000000 in
theorem decls_reads {w0 : World} {rb tb rv vb F B : Nat} (hB : B ≤ 50000) : Reads List.length F B w0.heap.size rb tb 69 #[.pointer (some ⟨rv, 0, none⟩), .pointer (some ⟨vb, 0, none⟩)] oneD (DeclsA w0 rb tb rv vb) (fun w' => Kept (fun i => i = rb ∨ i = vb) w0 w') := by
  rintro ts a wc hE hF hz hR ⟨lv, C⟩
  obtain ⟨s0, s1, f1⟩ := C.cells
  have hw0 := C.kept.size
  have hmf : ∀ (fn : Fn) (first cap : Array Value) (w : World), (Instr.makeFunc fn first cap).run Tryz.prog w = .ok (.func fn first cap) w := fun _ _ _ _ => rfl
  cases ts with
  | nil => exact absurd rfl hE.ne
  | cons t r =>
    have c1 := defined_any hR
    cases hW : wordF (t :: r) with
    | error p =>
      have e1 : oneD (t :: r) a = .error p := by simp [oneD, hW]
      rw [e1]
      rw [hW] at c1
      clear e1 hW
      go_enter Tryz.func69, Tryz.ntmps69
      go_wp2_with (first | (go_at_call 70; refine c1.mono ?_; rintro e w1 ⟨⟨b, rfl, g0, g1⟩, g2⟩))
      exact ⟨rfl, ⟨b, rfl, by omega, g1⟩, C.kept.trans g2 (fun _ _ e => .inl e)⟩
    | ok v =>
      obtain ⟨d, q⟩ := v
      have hwl := wordF_lt hW
      have hE2 : EndsT q := by
        simp only [wordF] at hW
        by_cases h1 : t.kind = 1
        · rw [if_pos h1] at hW
          have hn := hE.next (by omega)
          split at hW
          · cases hW; exact hn
          · split at hW
            · cases hW; exact hn
            · cases hW
        · rw [if_neg h1] at hW; cases hW
      have hqp : 0 < q.length := List.length_pos_iff.2 hE2.ne
      obtain ⟨m, hm⟩ : ∃ m, q.length = m + 1 := ⟨q.length - 1, by omega⟩
      have e1 : oneD (t :: r) a = rowR (oneDecl d) 6 (m + 1) q a := by simp [oneD, hW, hm]
      rw [e1]
      rw [hW] at c1
      simp only [List.length_cons] at hwl hz
      have c2 : Hid (∀ w1, RdAt w1 rb tb q → Kept (fun i => i = rb) wc w1 → Calls Tryz.prog 54 #[.pointer (some ⟨rb, 0, none⟩), .int .i64 6, .func (.func 71) #[] #[.pointer (some ⟨vb, 0, none⟩), .pointer (some ⟨rv, 0, none⟩), .pointer (some ⟨w1.heap.size, 0, none⟩)]] (w1.alloc (.cells #[.bool d] 4)) (Comes List.length B w0.heap.size rb tb (t :: r) (DeclsA w0 rb tb rv vb) (fun w' => Kept (fun i => i = rb ∨ i = vb) w0 w') (rowR (oneDecl d) 6 (m + 1) q a))) := by
        intro w1 hR1 hk1
        have kA : Same0 w1 (w1.alloc (.cells #[.bool d] 4)) := Kept.alloc (Kept.refl _ w1) _
        have C1 := (C.rd hk1).same kA
        have hlt := C1.lt
        have hsz : w0.heap.size ≤ w1.heap.size := (C.rd hk1).kept.size
        have hA : DeclA d w0 rb tb rv vb w1.heap.size a (w1.alloc (.cells #[.bool d] 4)) := ⟨lv, C1, heap_alloc_new w1 _, fun e => by have := (own_ge (C.rd hk1).row e).2; omega, by omega, by omega⟩
        refine (row_any (sign := 6) (F := q.length) (enters_of Tryz.func71 (by kernel_rfl) rfl) (decl1_reads (d := d) (w0 := w0) (rb := rb) (tb := tb) (rv := rv) (vb := vb) (dv := w1.heap.size) hB) (fun a x y p k => p.rd k) (by omega) m (by omega) hE2 (Nat.le_refl _) (by omega) (hR1.same kA) hA).mono ?_
        intro e w2 h
        cases hX : rowR (oneDecl d) 6 (m + 1) q a with
        | error p => rw [hX] at h; exact h
        | ok v =>
          obtain ⟨a2, r2⟩ := v
          rw [hX] at h
          obtain ⟨h1, h2, ⟨lv2, h3, _⟩, h4, h5, h6⟩ := h
          exact ⟨h1, h2, ⟨lv2, h3⟩, h4, by simp only [List.length_cons]; omega, h6⟩
      have HC : Hid (Col 96 138 4 w0 rb tb rv vb a.length (dcCells a) wc lv) := C
      clear e1 hW hE hE2 hR C hm
      cases hX : rowR (oneDecl d) 6 (m + 1) q a with
      | error p =>
        rw [hX] at c2
        clear hX
        go_enter Tryz.func69, Tryz.ntmps69
        go_wp2_with (first | (go_at_call 70; refine c1.mono ?_; rintro e w1 ⟨rfl, g0, g1⟩; obtain ⟨x0, x1, x2⟩ := ((HC.out.rd g1).same (Kept.alloc (Kept.refl _ w1) (.cells #[.bool d] 4))).cells) | (go_at_call 54; refine (c2.out _ g0 g1).mono ?_; rintro e w2 ⟨⟨b, rfl, y0, y1⟩, y2⟩))
        exact ⟨rfl, ⟨b, rfl, y0, y1⟩, y2⟩
      | ok v =>
        obtain ⟨a2, r2⟩ := v
        rw [hX] at c2
        clear hX
        go_enter Tryz.func69, Tryz.ntmps69
        go_wp2_with (first | (go_at_call 70; refine c1.mono ?_; rintro e w1 ⟨rfl, g0, g1⟩; obtain ⟨x0, x1, x2⟩ := ((HC.out.rd g1).same (Kept.alloc (Kept.refl _ w1) (.cells #[.bool d] 4))).cells) | (go_at_call 54; refine (c2.out _ g0 g1).mono ?_; rintro e w2 ⟨rfl, y⟩))
        go_end0
        exact ⟨rfl, y⟩
/-- Nothing, or declarations. -/
def listS (ts : List Tok) : Except Nat (List Dc × List Tok) := match ts with
  | [] => .error 0
  | t :: r => if t.kind = 13 then .ok ([], t :: r) else rowR oneD 7 (r.length + 1) (t :: r) []
def DeclsCame (rb tb : Nat) (w : World) (R : Except Nat (List Dc × List Tok)) (e : Ending) (w' : World) : Prop := match R with
  | .ok (a, r) => ∃ v, e = .returned v ∧ RdAt w' rb tb r ∧ w'.ownsRow w.heap.size 138 4 v a.length (dcCells a) ∧ Kept (fun i => i = rb) w w' ∧ EndsT r ∧ a.length ≤ 50000
  | .error p => GaveUp w.heap.size w' e 41 p ∧ Kept (fun i => i = rb) w w'
set_option maxHeartbeats 2000000 in
theorem decls_any {w : World} {rb tb : Nat} {ts : List Tok} (hE : EndsT ts) (hR : RdAt w rb tb ts) (hz : ts.length ≤ 50000) : Calls Tryz.prog 42 #[.pointer (some ⟨rb, 0, none⟩)] w (DeclsCame rb tb w (listS ts)) := by
  cases ts with
  | nil => exact absurd rfl hE.ne
  | cons t r =>
    have hlt := hR.lt
    have hmf : ∀ (fn : Fn) (first cap : Array Value) (w : World), (Instr.makeFunc fn first cap).run Tryz.prog w = .ok (.func fn first cap) w := fun _ _ _ _ => rfl
    have c2 : Calls Tryz.prog 59 #[.pointer (some ⟨rb, 0, none⟩), .int .i64 7, .func (.func 69) #[] #[.pointer (some ⟨w.heap.size, 0, none⟩), .pointer (some ⟨w.heap.size + 1, 0, none⟩)]] ((w.alloc (.cells #[.pointer (some ⟨rb, 0, none⟩)] 59)).alloc (.cells #[.slice none 0 0] 96)) fun e w2 => match listS (t :: r) with
        | .ok (a, q) => e = .returned (.tuple #[]) ∧ ∃ lv, w2.cell? ⟨w.heap.size + 1, 0, none⟩ = some lv ∧ Hid (RdAt w2 rb tb q ∧ w2.ownsRow w.heap.size 138 4 lv a.length (dcCells a) ∧ Kept (fun i => i = rb) w w2 ∧ EndsT q ∧ a.length ≤ 50000)
        | .error p => GaveUp w.heap.size w2 e 41 p ∧ Kept (fun i => i = rb) w w2 := by
      obtain ⟨w0, hw0⟩ : ∃ w0, ((w.alloc (.cells #[.pointer (some ⟨rb, 0, none⟩)] 59)).alloc (.cells #[.slice none 0 0] 96)) = w0 := ⟨_, rfl⟩
      have hsz : w0.heap.size = w.heap.size + 2 := by rw [← hw0]; simp only [World.size_alloc]
      have K0 : Same0 w w0 := by rw [← hw0]; exact Kept.alloc (Kept.alloc (Kept.refl _ w) _) _
      have C0 : Col 96 138 4 w0 rb tb w.heap.size (w.heap.size + 1) 0 (dcCells []) w0 (.slice none 0 0) := by
        refine ⟨?_, ?_, ⟨rfl, .inl ⟨rfl, rfl⟩⟩, Kept.refl _ _, ⟨by omega, by omega, by omega, by omega⟩, ⟨by omega, by omega, by omega, by omega, by omega⟩⟩
        · rw [← hw0]; exact Kept.at (Kept.alloc (Kept.refl (fun _ => False) _) _) (heap_alloc_new w _) (fun f => f)
        · rw [← hw0]; exact alloc_at1 w _ _
      rw [hw0]
      by_cases h13 : t.kind = 13
      · refine (list_end (hR.same K0) h13 _ _).mono ?_
        rintro e w' ⟨rfl, rfl⟩
        rw [show listS (t :: r) = .ok ([], t :: r) by simp [listS, h13]]
        exact ⟨rfl, _, C0.cells.2.1, hR.same K0, row_mono C0.row (by omega), Kept.mono K0 (fun _ _ f => f.elim), hE, by simp⟩
      · have c := row_any (sign := 7) (F := (t :: r).length) (a := ([] : List Dc)) (enters_of Tryz.func69 (by kernel_rfl) rfl) (decls_reads (w0 := w0) (rb := rb) (tb := tb) (rv := w.heap.size) (vb := w.heap.size + 1) (B := (t :: r).length) hz) (fun a x y ⟨lv, p⟩ k => ⟨lv, p.rd k⟩) (by omega) r.length (by simp) hE (Nat.le_refl _) (by simp) (hR.same K0) ⟨_, C0⟩
        have hup : ∀ {w2 : World}, Kept (fun i => i = rb ∨ i = w.heap.size + 1) w0 w2 → Kept (fun i => i = rb) w w2 := fun k => (Kept.mono K0 (fun _ _ f => f.elim)).trans k (fun i hi e => e.elim id (fun e => by omega))
        refine (list_row (hR.same K0) h13 _ _ c).mono ?_
        intro e w2 h
        simp only [listS, h13, if_false]
        cases hX : rowR oneD 7 (r.length + 1) (t :: r) [] with
        | error p =>
          rw [hX] at h
          exact ⟨h.1.mono (by omega), hup h.2⟩
        | ok v =>
          obtain ⟨p, q⟩ := v
          rw [hX] at h
          obtain ⟨rfl, h1, ⟨lv, C2⟩, h3, h4, h5⟩ := h
          exact ⟨rfl, lv, C2.cells.2.1, h1, row_mono C2.row (by omega), hup C2.kept, h3, by omega⟩
    clear hE hR hlt
    cases hX : listS (t :: r) with
    | error p =>
      rw [hX] at c2
      clear hX
      go_enter Tryz.func42, Tryz.ntmps42
      go_wp2_with (first | (go_at_call 59; refine c2.mono ?_; rintro e w2 ⟨⟨b, rfl, g0, g1⟩, k6⟩))
      exact ⟨rfl, ⟨b, rfl, g0, g1⟩, k6⟩
    | ok v =>
      obtain ⟨p, q⟩ := v
      rw [hX] at c2
      clear hX
      go_enter Tryz.func42, Tryz.ntmps42
      go_wp2_with (first | (go_at_call 59; refine c2.mono ?_; rintro e w2 ⟨rfl, lv, s1, HP⟩))
      go_ret
      obtain ⟨p1, p2, p3, p4, p5⟩ := HP.out
      exact ⟨_, rfl, p1, p2, p3, p4, p5⟩
end Go.Proofs.YtbjfpfnfbgncnaaGreatDoor
/- A row that is made whole and filled cell by cell. -/
namespace Go.Proofs.YtbjfpfnfbgncnaaGreatDoor
open Go.RowKit
set_option linter.unusedVariables false
set_option maxRecDepth 100000
/-- Block g has N cells of that type, the first p of which hold xs. -/
def FilledC (w : World) (g : Nat) (E : TypeId) (N p : Nat) (xs : List Value) : Prop := ∃ cur, w.heap[g]? = some (.cells cur E (0, 0)) ∧ cur.size = N ∧ cur.toList.take p = xs ∧ p ≤ N
theorem FilledC.kept {w w' : World} {g : Nat} {E : TypeId} {N p : Nat} {xs : List Value} {S : Nat → Prop} (h : FilledC w g E N p xs) (hk : Kept S w w') (hs : ¬ S g) : FilledC w' g E N p xs := by
  obtain ⟨cur, h1, h2⟩ := h
  exact ⟨cur, hk.at h1 hs, h2⟩
theorem take_set_one (v : Value) : ∀ (l : List Value) (p : Nat), p < l.length → (l.set p v).take (p + 1) = l.take p ++ [v] := by
  intro l
  induction l with
  | nil => intro p h; simp at h
  | cons x l ih =>
    intro p h
    cases p with
    | zero => simp
    | succ p => simp [ih p (by simpa using h)]
theorem FilledC.put {w : World} {g : Nat} {E : TypeId} {N p : Nat} {xs : List Value} (h : FilledC w g E N p xs) (hp : p < N) (v : Value) : FilledC (w.setCell ⟨g, p, none⟩ v) g E N (p + 1) (xs ++ [v]) := by
  obtain ⟨cur, h1, h2, h3, h4⟩ := h
  refine ⟨cur.setIfInBounds p v, setAt h1 p v, by simp [h2], ?_, by omega⟩
  have hl : p < cur.toList.length := by simp; omega
  rw [Array.toList_setIfInBounds, ← h3]
  exact take_set_one _ _ _ hl
theorem FilledC.start {w : World} {base g : Nat} {E : TypeId} {k n : Nat} {xs : List Value} (h : w.ownsRow base E k (.slice (some ⟨g, 0, none⟩) n n) n xs) : FilledC w g E (n * k) 0 [] := by
  rcases h.2 with ⟨e, _⟩ | ⟨g', cap', cur, e, hb, hg, h1, h2, h3, h4⟩
  · cases e
  · cases e; exact ⟨cur, hg, h3, by simp, by omega⟩
theorem FilledC.done {w : World} {base g : Nat} {E : TypeId} {k n : Nat} {xs : List Value} (h : FilledC w g E (n * k) (n * k) xs) (hb : base ≤ g) (hn : n ≤ maxLen) : w.ownsRow base E k (.slice (some ⟨g, 0, none⟩) n n) n xs := by
  obtain ⟨cur, h1, h2, h3, h4⟩ := h
  refine ⟨?_, .inr ⟨g, n, cur, rfl, hb, h1, Nat.le_refl _, hn, h2, h3⟩⟩
  rw [← h3]; simp [h2]
theorem FilledC.cell {w : World} {g : Nat} {E : TypeId} {N p : Nat} {xs : List Value} (h : FilledC w g E N p xs) {j : Nat} (hj : j < N) : (∃ v, w.cell? ⟨g, j, none⟩ = some v) ∧ w.frozen? ⟨g, j, none⟩ = false := by
  obtain ⟨cur, h1, h2, h3, h4⟩ := h
  exact ⟨⟨cur[j]'(by omega), by rw [cellAt h1]; simp [h2, hj]⟩, frozenAt h1 j⟩
end Go.Proofs.YtbjfpfnfbgncnaaGreatDoor
/- The walk of the symbols that were declared. -/
namespace Go.Proofs.YtbjfpfnfbgncnaaGreatDoor
open Go.RowKit
set_option linter.unusedVariables false
set_option maxRecDepth 100000
theorem dcCells_length (l : List Dc) : (dcCells l).length = l.length * 4 := by
  induction l with
  | nil => rfl
  | cons x r ih => simp [dcCells, dcV] at ih ⊢; omega
theorem dcCells_at {l : List Dc} {i : Nat} (h : i < l.length) : (dcCells l)[i * 4]? = some (.int .i64 (l[i].1 : Int)) ∧ (dcCells l)[i * 4 + 1]? = some (.string l[i].2.name) ∧ (dcCells l)[i * 4 + 2]? = some (.int .i64 l[i].2.ar) ∧ (dcCells l)[i * 4 + 3]? = some (.bool l[i].2.df) := by
  induction l generalizing i with
  | nil => simp at h
  | cons x r ih =>
    have e : dcCells (x :: r) = .int .i64 (x.1 : Int) :: .string x.2.name :: .int .i64 x.2.ar :: .bool x.2.df :: dcCells r := by simp [dcCells, dcV]
    rw [e]
    cases i with
    | zero => simp
    | succ j =>
      obtain ⟨a, b, c, d⟩ := ih (i := j) (by simpa using h)
      have e1 : (j + 1) * 4 = j * 4 + 1 + 1 + 1 + 1 := by omega
      refine ⟨?_, ?_, ?_, ?_⟩
      · rw [e1]; simpa using a
      · rw [e1, show j * 4 + 1 + 1 + 1 + 1 + 1 = (j * 4 + 1) + 1 + 1 + 1 + 1 by omega]; simpa using b
      · rw [e1, show j * 4 + 1 + 1 + 1 + 1 + 2 = (j * 4 + 2) + 1 + 1 + 1 + 1 by omega]; simpa using c
      · rw [e1, show j * 4 + 1 + 1 + 1 + 1 + 3 = (j * 4 + 3) + 1 + 1 + 1 + 1 by omega]; simpa using d
def symsOf (a : List Dc) : List Sym := a.map (fun x => x.2)
theorem symsOf_take {a : List Dc} {k : Nat} (h : k < a.length) : symCells (symsOf (a.take (k + 1))) = symCells (symsOf (a.take k)) ++ [.string a[k].2.name, .int .i64 a[k].2.ar, .bool a[k].2.df] := by
  rw [List.take_succ_eq_append_getElem h]
  simp only [symsOf, List.map_append, List.map_cons, List.map_nil, symCells, List.flatMap_append, List.flatMap_cons, List.flatMap_nil, List.append_nil]
theorem info_sym : (Tryz.prog.info? 95).map (fun i => (i.zero, i.size, i.bytes)) = some (some (.agg #[.string ByteArray.empty, .int .i64 0, .bool false]), 3, 32) := by kernel_rfl
set_option maxHeartbeats 2000000 in
theorem symbols_many {w : World} {base : Nat} {a : List Dc} {ao : Option Addr} {cap : Nat} (h : w.ownsRow base 138 4 (.slice ao a.length cap) a.length (dcCells a)) (hm : 64 < a.length) (hs : a.length ≤ 50000) :
    Calls Tryz.prog 43 #[.slice ao a.length cap] w fun e w' => GaveUp w.heap.size w' e 42 a[64].1 ∧ Same0 w w' := by
  obtain ⟨g, cap', hv, hb, hlt⟩ := h.form (by omega)
  obtain ⟨rfl, _, rfl⟩ : ao = some ⟨g, 0, none⟩ ∧ a.length = a.length ∧ cap = cap' := by simpa using hv
  have hc := h.cellAt (64 * 4) (by omega)
  rw [(dcCells_at hm).1] at hc
  obtain ⟨p, hpp⟩ : ∃ p, p = a[64].1 := ⟨_, rfl⟩
  rw [← hpp] at hc ⊢
  have hm2 : (64 : Int) < (a.length : Int) := by omega
  clear h hv hpp
  go_enter Tryz.func43, Tryz.ntmps43
  go_wp2_with (first | (go_at_call 49; refine (giveUp_any _ _ _).mono ?_; rintro e w' ⟨rfl, rfl⟩))
  exact ⟨rfl, ⟨_, rfl, Nat.le_refl _, heap_alloc_new _ _⟩, Kept.alloc (Kept.refl _ w) _⟩
set_option maxHeartbeats 4000000 in
theorem symbols_few {w : World} {base : Nat} {a : List Dc} {ao : Option Addr} {cap : Nat} (h : w.ownsRow base 138 4 (.slice ao a.length cap) a.length (dcCells a)) (hm : a.length ≤ 64) :
    Calls Tryz.prog 43 #[.slice ao a.length cap] w fun e w' => ∃ g, e = .returned (.slice (some ⟨g, 0, none⟩) a.length a.length) ∧ w'.ownsRow w.heap.size 95 3 (.slice (some ⟨g, 0, none⟩) a.length a.length) a.length (symCells (symsOf a)) ∧ Same0 w w' := by
  obtain ⟨i, hi, hz0, hz1, hz2⟩ := info_of info_sym
  have hm2 : ¬ ((64 : Int) < (a.length : Int)) := by omega
  have HH : Hid (w.ownsRow base 138 4 (.slice ao a.length cap) a.length (dcCells a)) := h
  clear h
  go_enter Tryz.func43, Tryz.ntmps43
  go_wp2_with (first | (at_make; refine wpList_make_full _ rfl _ _ 45 rfl w.heap.size 95 i _ 3 Tryz.underlying45 hi hz0 hz1 _ _ _ _ a.length rfl rfl rfl rfl (by rw [hz2]; omega) (by unfold maxLen; omega) (Nat.le_refl _) ?_; intro w3 hown hgrow))
  have HK : Hid (Same0 w w3) := Kept.grown (Kept.refl _ w) hgrow (fun _ e _ => by cases e)
  have HF : Hid (FilledC w3 w.heap.size 95 (a.length * 3) 0 []) := FilledC.start hown
  clear hown hgrow
  go_loopw [19] (fun x wr => ∃ k : Nat, x = .int .i64 (k : Int) ∧ k ≤ a.length ∧ FilledC wr w.heap.size 95 (a.length * 3) (k * 3) (symCells (symsOf (a.take k))) ∧ Kept (fun j => j = w.heap.size) w3 wr) (fun x _ => a.length - (intOf x).toNat)
  case atStart => exact ⟨0, rfl, Nat.zero_le _, HF.out, Kept.refl _ _⟩
  case round =>
    obtain ⟨k, rfl, hk, hF, hK⟩ := hrel
    by_cases hlt : k < a.length
    · have hr := hK.row (HK.out.row HH.out (fun _ _ f => f)) (fun j e => by have := (own_ge HH.out e).2; omega)
      obtain ⟨sg, cap', hv, hsb, hsl2⟩ := hr.form (by omega)
      obtain ⟨rfl, _, rfl⟩ : ao = some ⟨sg, 0, none⟩ ∧ a.length = a.length ∧ cap = cap' := by simpa using hv
      obtain ⟨m0, m1, m2, m3⟩ := dcCells_at hlt
      have q0 := hr.cellAt (k * 4) (by omega)
      have q1 := hr.cellAt (k * 4 + 1) (by omega)
      have q2 := hr.cellAt (k * 4 + 2) (by omega)
      have q3 := hr.cellAt (k * 4 + 3) (by omega)
      rw [m0] at q0; rw [m1] at q1; rw [m2] at q2; rw [m3] at q3
      obtain ⟨⟨u0, t0⟩, z0⟩ := hF.cell (j := k * 3) (by omega)
      obtain ⟨⟨u1, t1⟩, z1⟩ := hF.cell (j := k * 3 + 1) (by omega)
      obtain ⟨⟨u2, t2⟩, z2⟩ := hF.cell (j := k * 3 + 2) (by omega)
      have e1 := symsOf_take hlt
      obtain ⟨pl, hpl⟩ : ∃ pl, pl = a[k].1 := ⟨_, rfl⟩
      obtain ⟨x1, hx1⟩ : ∃ x, x = a[k].2.name := ⟨_, rfl⟩
      obtain ⟨x2, hx2⟩ : ∃ x, x = a[k].2.ar := ⟨_, rfl⟩
      obtain ⟨x3, hx3⟩ : ∃ x, x = a[k].2.df := ⟨_, rfl⟩
      rw [← hx1] at q1; rw [← hx2] at q2; rw [← hx3] at q3
      rw [← hx1, ← hx2, ← hx3] at e1
      rw [← hpl] at q0
      have HE : Hid (symCells (symsOf (a.take (k + 1))) = symCells (symsOf (a.take k)) ++ [.string x1, .int .i64 x2, .bool x3]) := e1
      have HF2 : Hid (FilledC wr w.heap.size 95 (a.length * 3) (k * 3) (symCells (symsOf (a.take k)))) := hF
      have HK2 : Hid (Kept (fun j => j = w.heap.size) w3 wr) := hK
      have d1 : (k : Int) < (a.length : Int) := by omega
      have hsg : sg ≠ w.heap.size := by have := (own_ge HH.out (k := sg) rfl).2; omega
      have hwl : w.heap.size < wr.heap.size := by obtain ⟨cur, h1, _⟩ := hF; exact lt_of_at h1
      clear hF hK hx1 hx2 hx3 hpl m0 m1 m2 m3 hr hv e1
      go_wp2_with fail
      have hP2 := (((HF2.out.put (by omega) (.string x1)).put (by omega) (.int .i64 x2)).put (by omega) (.bool x3)).kept (Kept.alloc (Kept.refl (fun _ => False) _) (.cells #[.int .i64 (pl : Int), .string x1, .int .i64 x2, .bool x3] 138)) (fun f => f)
      rw [List.append_assoc, List.append_assoc] at hP2
      refine ⟨⟨k + 1, by go_num, by omega, ?_, ?_⟩, by simp [intOf]; omega⟩
      · rw [show (k + 1) * 3 = k * 3 + 1 + 1 + 1 by omega, HE.out]
        exact hP2
      · exact Kept.alloc (Kept.setCell (p := ⟨w.heap.size, k * 3 + 2, none⟩) (Kept.setCell (p := ⟨w.heap.size, k * 3 + 1, none⟩) (Kept.setCell (p := ⟨w.heap.size, k * 3, none⟩) HK2.out (fun _ => rfl) _) (fun _ => rfl) _) (fun _ => rfl) _) _
    · obtain rfl : k = a.length := by omega
      have d1 : ¬ ((a.length : Int) < (a.length : Int)) := by omega
      have hD : Hid (wr.ownsRow w.heap.size 95 3 (.slice (some ⟨w.heap.size, 0, none⟩) a.length a.length) a.length (symCells (symsOf a))) := by
        rw [List.take_length] at hF
        exact hF.done (Nat.le_refl _) (by unfold maxLen; omega)
      have HK2 : Hid (Kept (fun j => j = w.heap.size) w3 wr) := hK
      clear hF hK
      go_wp2_with fail
      go_ret
      exact ⟨_, rfl, hD.out, HK.out.trans HK2.out (fun j hj e => by omega)⟩
end Go.Proofs.YtbjfpfnfbgncnaaGreatDoor
