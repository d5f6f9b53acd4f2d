import Derived.Test.YtbjfpfnfbgncnaaGreatDoorM17
import Derived.Test.YtbjfpfnfbgncnaaGreatDoorM07
/- What a function value gathers, one element a call: its variable, its reader, the row so far. -/
namespace Go.Proofs.YtbjfpfnfbgncnaaGreatDoor
open Go.RowKit
set_option linter.unusedVariables false
set_option maxRecDepth 100000
/-- So much was gathered since w0: rv holds the reader rb, vb the row of n elements. -/
structure Col (TS E : TypeId) (k : Nat) (w0 : World) (rb tb rv vb n : Nat) (xs : List Value) (wc : World) (lv : Value) : Prop where
  r0 : wc.heap[rv]? = some (.cells #[.pointer (some ⟨rb, 0, none⟩)] 59 (0, 0))
  l0 : wc.heap[vb]? = some (.cells #[lv] TS (0, 0))
  row : wc.ownsRow w0.heap.size E k lv n xs
  kept : Kept (fun i => i = rb ∨ i = vb) w0 wc
  lt : rb < w0.heap.size ∧ tb < w0.heap.size ∧ rv < w0.heap.size ∧ vb < w0.heap.size
  ne : rv ≠ rb ∧ rv ≠ tb ∧ vb ≠ rb ∧ vb ≠ tb ∧ rv ≠ vb
theorem Col.rd {TS E : TypeId} {k : Nat} {w0 : World} {rb tb rv vb n : Nat} {xs : List Value} {wc wd : World} {lv : Value} (h : Col TS E k w0 rb tb rv vb n xs wc lv) (hk : Kept (fun i => i = rb) wc wd) : Col TS E k w0 rb tb rv vb n xs wd lv :=
  ⟨hk.at h.r0 h.ne.1, hk.at h.l0 h.ne.2.2.1, hk.row h.row (fun j e => by have := (own_ge h.row e).1; have := h.lt; omega), h.kept.trans hk (fun i _ e => .inl e), h.lt, h.ne⟩
theorem Col.same {TS E : TypeId} {k : Nat} {w0 : World} {rb tb rv vb n : Nat} {xs : List Value} {wc wd : World} {lv : Value} (h : Col TS E k w0 rb tb rv vb n xs wc lv) (hk : Same0 wc wd) : Col TS E k w0 rb tb rv vb n xs wd lv := h.rd (Kept.mono hk (fun _ _ f => f.elim))
theorem Col.lt' {TS E : TypeId} {k : Nat} {w0 : World} {rb tb rv vb n : Nat} {xs : List Value} {wc : World} {lv : Value} (h : Col TS E k w0 rb tb rv vb n xs wc lv) : w0.heap.size ≤ wc.heap.size := h.kept.size
/-- One element more. -/
theorem Col.more {TS E : TypeId} {k : Nat} {w0 w6 w7 : World} {rb tb rv vb n g gcap : Nat} {xs cs : List Value} {lv : Value} {o : Obj} {r : List Tok} (h : Col TS E k w0 rb tb rv vb n xs w6 lv) (hR : RdAt w6 rb tb r)
    (hr : w7.ownsRow w0.heap.size E k (.slice (some ⟨g, 0, none⟩) (n + 1) gcap) (n + 1) (xs ++ cs)) (hk : Kept (fun i => lv.ownBlock = some i) (w6.alloc o) w7) (hat : lv.ownBlock = some g ∨ g = (w6.alloc o).heap.size) :
    Col TS E k w0 rb tb rv vb (n + 1) (xs ++ cs) (w7.setCell ⟨vb, 0, none⟩ (.slice (some ⟨g, 0, none⟩) (n + 1) gcap)) (.slice (some ⟨g, 0, none⟩) (n + 1) gcap) ∧ RdAt (w7.setCell ⟨vb, 0, none⟩ (.slice (some ⟨g, 0, none⟩) (n + 1) gcap)) rb tb r := by
  have hk' := hk.behind
  have how : ∀ i, lv.ownBlock = some i → w0.heap.size ≤ i := fun i e => (own_ge h.row e).1
  have hlt := h.lt
  have hs : Kept (fun i => i = vb) w7 (w7.setCell ⟨vb, 0, none⟩ (.slice (some ⟨g, 0, none⟩) (n + 1) gcap)) := Kept.setCell (p := ⟨vb, 0, none⟩) (Kept.refl (fun i => i = vb) w7) (fun _ => rfl) _
  have hg : w0.heap.size ≤ g := by
    rcases hat with e | e
    · exact how g e
    · simp only [World.size_alloc] at e
      have := h.kept.size; omega
  have l7 : w7.heap[vb]? = some (.cells #[lv] TS (0, 0)) := hk'.at h.l0 (fun e => by have := how _ e; omega)
  have r7 := hk'.at h.r0 (fun e => by have := how _ e; omega)
  refine ⟨⟨hs.at r7 h.ne.2.2.2.2, by rw [setAt l7]; simp, hs.row hr (fun j e => by simp [Value.ownBlock] at e; omega), ?_, h.lt, h.ne⟩, ?_⟩
  · have h1 := h.kept.trans hk' (S' := fun i => lv.ownBlock = some i) (fun i hi e => by have := how _ e; omega)
    exact h1.trans hs (fun i hi e => .inr e)
  · have h1 := hR.kept hk' (fun e => by have := how _ e; omega) (fun e => by have := how _ e; omega)
    exact h1.kept hs (fun e => h.ne.2.2.1 e.symm) (fun e => h.ne.2.2.2.1 e.symm)
theorem Col.cells {TS E : TypeId} {k : Nat} {w0 : World} {rb tb rv vb n : Nat} {xs : List Value} {wc : World} {lv : Value} (h : Col TS E k w0 rb tb rv vb n xs wc lv) :
    wc.cell? ⟨rv, 0, none⟩ = some (.pointer (some ⟨rb, 0, none⟩)) ∧ wc.cell? ⟨vb, 0, none⟩ = some lv ∧ wc.frozen? ⟨vb, 0, none⟩ = false := by
  have s0 := cellAt h.r0 0
  have s1 := cellAt h.l0 0
  simp only [List.getElem?_toArray, List.getElem?_cons_zero] at s0 s1
  exact ⟨s0, s1, frozenAt h.l0 0⟩
/-- A call, at a step of a region that draws its order, by its contract. -/
theorem info_int : (Tryz.prog.info? 3).map (fun i => (i.zero, i.size, i.bytes)) = some (some (.int .i64 0), 1, 8) := by kernel_rfl
end Go.Proofs.YtbjfpfnfbgncnaaGreatDoor
/- Paths and moves: read off tokens, written, and read as they were; no program in sight. -/
namespace Go.Proofs.YtbjfpfnfbgncnaaGreatDoor
set_option linter.unusedVariables false
set_option linter.unusedSimpArgs false
/-! ### texts laid of pieces -/
theorem layT_append (a b : List (List UInt8 × Nat × List UInt8)) : layT (a ++ b) = layT a ++ layT b := by
  induction a with
  | nil => rfl
  | cons c a ih => obtain ⟨g, k, t⟩ := c; simp only [List.cons_append, layT, ih, List.append_assoc]
theorem layok_append {e : List UInt8} : ∀ {a b : List (List UInt8 × Nat × List UInt8)}, LayOk (layT b ++ e) a → LayOk e b → LayOk e (a ++ b) := by
  intro a
  induction a with
  | nil => intro b _ h; exact h
  | cons c a ih =>
    obtain ⟨g, k, t⟩ := c
    intro b h hb
    obtain ⟨h1, h2, h3, h4⟩ := h
    refine ⟨h1, h2, ?_, ih h4 hb⟩
    show Stops k (layT (a ++ b) ++ e)
    rw [layT_append, List.append_assoc]; exact h3
/-- The first piece has that gap ahead of it. -/
def withGap (g : List UInt8) : List (List UInt8 × Nat × List UInt8) → List (List UInt8 × Nat × List UInt8)
  | [] => []
  | (_, k, t) :: r => (g, k, t) :: r
theorem withGap_ok {g e : List UInt8} (hg : Gap g) {cs : List (List UInt8 × Nat × List UInt8)} (h : LayOk e cs) : LayOk e (withGap g cs) := by
  cases cs with
  | nil => exact h
  | cons c cs => obtain ⟨g0, k, t⟩ := c; exact ⟨hg, h.2⟩
theorem withGap_map (g : List UInt8) (cs : List (List UInt8 × Nat × List UInt8)) : (withGap g cs).map (fun c => (c.2.1, c.2.2)) = cs.map (fun c => (c.2.1, c.2.2)) := by
  cases cs with
  | nil => rfl
  | cons c cs => rfl
theorem gap_space : Gap [32] := gap_blank (by decide) gap_nil
/-! ### reading -/
/-- The numbers behind dots. -/
def dotsF : List Tok → Except Nat (List Nat × List Tok)
  | [] => .ok ([], [])
  | [d] => if d.kind = 10 then .error 0 else .ok ([], [d])
  | d :: m :: q => if d.kind = 10 then (if m.kind = 3 then (dotsF q).map (fun v => (valL m.text :: v.1, v.2)) else .error m.at') else .ok ([], d :: m :: q)
/-- A path. -/
def pathF : List Tok → Except Nat (List Nat × List Tok)
  | [] => .error 0
  | t :: r => if t.kind = 12 then .ok ([], r) else if t.kind = 3 then (dotsF r).map (fun v => (valL t.text :: v.1, v.2)) else .error t.at'
/-- Moves, each with the place of its first token. -/
def movesF : Nat → List Tok → Except Nat (List (Nat × List Nat × Nat) × List Tok)
  | 0, _ => .error 0
  | n + 1, ts => match pathF ts with
    | .error p => .error p
    | .ok (_, []) => .error 0
    | .ok (p, [c]) => if c.kind = 11 then .error 0 else .error c.at'
    | .ok (p, c :: m :: r) => if c.kind = 11 then (if m.kind = 3 then (match r with
          | [] => .ok ([((ts.head?.map (fun x => x.at')).getD 0, p, valL m.text)], [])
          | k :: q => if k.kind = 6 then (movesF n q).map (fun v => (((ts.head?.map (fun x => x.at')).getD 0, p, valL m.text) :: v.1, v.2)) else .ok ([((ts.head?.map (fun x => x.at')).getD 0, p, valL m.text)], k :: q))
        else .error m.at') else .error c.at'
def movesR (ts : List Tok) : Except (Nat × Nat) (List (List Nat × Nat)) := match ts with
  | [] => .error (41, 0)
  | e :: _ => if e.kind = 13 then .ok [] else (match movesF ts.length ts with
    | .error p => .error (41, p)
    | .ok (_, []) => .error (41, 0)
    | .ok (l, c :: _) => if c.kind = 13 then (if 1000 < l.length then .error (42, (l[1000]?.map (fun x => x.1)).getD 0) else .ok (l.map (fun x => x.2))) else .error (41, c.at'))
def pathR (ts : List Tok) : Except (Nat × Nat) (List Nat) := match pathF ts with
  | .error p => .error (41, p)
  | .ok (_, []) => .error (41, 0)
  | .ok (l, c :: _) => if c.kind = 13 then .ok l else .error (41, c.at')
/-! ### writing -/
def dotsC : List Nat → List (List UInt8 × Nat × List UInt8)
  | [] => []
  | n :: r => ([], 10, [46]) :: ([], 3, Lib.decDigits n) :: dotsC r
def pathC : List Nat → List (List UInt8 × Nat × List UInt8)
  | [] => [([], 12, [42])]
  | n :: r => ([], 3, Lib.decDigits n) :: dotsC r
def moveC (m : List Nat × Nat) : List (List UInt8 × Nat × List UInt8) := pathC m.1 ++ [([], 11, [58]), ([], 3, Lib.decDigits m.2)]
def movesC : List (List Nat × Nat) → List (List UInt8 × Nat × List UInt8)
  | [] => []
  | [m] => moveC m
  | m :: k :: l => moveC m ++ (([], 6, [44]) :: withGap [32] (movesC (k :: l)))
def Fit (n : Nat) : Prop := n ≤ 999999999
theorem dots_ok {e : List UInt8} (he : ∀ k, Stops k e) : ∀ {l : List Nat}, (∀ n ∈ l, Fit n) → LayOk e (dotsC l) ∧ ∀ k, Stops k (layT (dotsC l) ++ e) := by
  intro l
  induction l with
  | nil => intro _; exact ⟨True.intro, he⟩
  | cons n l ih =>
    intro h
    obtain ⟨h1, h2⟩ := ih (fun m hm => h m (by simp [hm]))
    refine ⟨⟨gap_nil, sign_tok.2.2.2.2.2.2.1, stops_sign (by omega) _, gap_nil, dec_tok (h n (by simp)), h2 3, h1⟩, fun k => stops_at (b := 46) (by decide)⟩
theorem path_ok {e : List UInt8} (he : ∀ k, Stops k e) {l : List Nat} (h : ∀ n ∈ l, Fit n) : LayOk e (pathC l) := by
  cases l with
  | nil => exact ⟨gap_nil, sign_tok.2.2.2.2.2.2.2.2, stops_sign (by omega) _, True.intro⟩
  | cons n l =>
    obtain ⟨h1, h2⟩ := dots_ok he (l := l) (fun m hm => h m (by simp [hm]))
    exact ⟨gap_nil, dec_tok (h n (by simp)), h2 3, h1⟩
def FitM (m : List Nat × Nat) : Prop := (∀ n ∈ m.1, Fit n) ∧ Fit m.2
theorem move_ok {e : List UInt8} (he : ∀ k, Stops k e) {m : List Nat × Nat} (h : FitM m) : LayOk e (moveC m) := by
  refine layok_append (path_ok (fun k => stops_at (b := 58) (by decide)) h.1) ?_
  exact ⟨gap_nil, sign_tok.2.2.2.2.2.2.2.1, stops_sign (by omega) _, gap_nil, dec_tok h.2, he 3, True.intro⟩
theorem moves_ok {e : List UInt8} (he : ∀ k, Stops k e) : ∀ {l : List (List Nat × Nat)}, (∀ m ∈ l, FitM m) → LayOk e (movesC l) := by
  intro l
  induction l with
  | nil => intro _; exact True.intro
  | cons m l ih =>
    intro h
    cases l with
    | nil => exact move_ok he (h m (by simp))
    | cons k l =>
      have hi := ih (fun x hx => h x (by simp at hx ⊢; exact .inr hx))
      refine layok_append (move_ok (fun k => stops_at (b := 44) (by decide)) (h m (by simp))) ?_
      exact ⟨gap_nil, sign_tok.2.2.1, stops_sign (by omega) _, withGap_ok gap_space hi⟩
/-! ### and back -/
def cKT (c : List UInt8 × Nat × List UInt8) : Nat × List UInt8 := (c.2.1, c.2.2)
def tKT (x : Tok) : Nat × List UInt8 := (x.kind, x.text)
theorem dots_back : ∀ (l : List Nat) (ts : List Tok) (R : List (Nat × List UInt8)), ts.map tKT = (dotsC l).map cKT ++ R → (∀ c, R.head? = some c → c.1 ≠ 10) → ∃ r, dotsF ts = .ok (l, r) ∧ r.map tKT = R := by
  intro l
  induction l with
  | nil =>
    intro ts R h hR
    simp only [dotsC, List.map_nil, List.nil_append] at h
    refine ⟨ts, ?_, h⟩
    cases ts with
    | nil => rfl
    | cons d ts =>
      have hd : d.kind ≠ 10 := hR (tKT d) (by rw [← h]; rfl)
      cases ts with
      | nil => rw [dotsF, if_neg hd]
      | cons m ts => rw [dotsF, if_neg hd]
  | cons n l ih =>
    intro ts R h hR
    simp only [dotsC, List.map_cons, List.cons_append] at h
    cases ts with
    | nil => simp at h
    | cons d ts =>
      cases ts with
      | nil => simp at h
      | cons m ts =>
        simp only [List.map_cons, List.cons.injEq] at h
        obtain ⟨e1, e2, e3⟩ := h
        obtain ⟨r, h1, h2⟩ := ih ts R e3 hR
        have hd : d.kind = 10 := by simp [tKT, cKT] at e1; exact e1.1
        have hm : m.kind = 3 ∧ m.text = Lib.decDigits n := by simpa [tKT, cKT] using e2
        refine ⟨r, ?_, h2⟩
        rw [dotsF, if_pos hd, if_pos hm.1, h1, hm.2, dec_val]; rfl
theorem path_back (l : List Nat) (ts : List Tok) (R : List (Nat × List UInt8)) (h : ts.map tKT = (pathC l).map cKT ++ R) (hR : ∀ c, R.head? = some c → c.1 ≠ 10) : ∃ r, pathF ts = .ok (l, r) ∧ r.map tKT = R := by
  cases ts with
  | nil => cases l <;> simp [pathC] at h
  | cons t ts =>
    cases l with
    | nil =>
      simp only [pathC, List.map_cons, List.map_nil, List.cons_append, List.nil_append, List.cons.injEq] at h
      have ht : t.kind = 12 := by have := h.1; simp [tKT, cKT] at this; exact this.1
      exact ⟨ts, by rw [pathF, if_pos ht], h.2⟩
    | cons n l =>
      simp only [pathC, List.map_cons, List.cons_append, List.cons.injEq] at h
      obtain ⟨e1, e2⟩ := h
      have ht : t.kind = 3 ∧ t.text = Lib.decDigits n := by simpa [tKT, cKT] using e1
      obtain ⟨r, h1, h2⟩ := dots_back l ts R e2 hR
      exact ⟨r, by rw [pathF, if_neg (by omega), if_pos ht.1, h1, ht.2, dec_val]; rfl, h2⟩
theorem moves_back (n : Nat) : ∀ (l : List (List Nat × Nat)) (ts : List Tok) (R : List (Nat × List UInt8)), l ≠ [] → ts.map tKT = (movesC l).map cKT ++ R → (∀ c, R.head? = some c → c.1 ≠ 6) → l.length ≤ n →
    ∃ v r, movesF n ts = .ok (v, r) ∧ v.map (fun x => x.2) = l ∧ r.map tKT = R := by
  induction n with
  | zero => intro l ts R hl _ _ h; cases l with | nil => exact absurd rfl hl | cons m l => simp at h
  | succ n ih =>
    intro l ts R hl h hR hn
    cases l with
    | nil => exact absurd rfl hl
    | cons m l =>
      have one : ∀ R2, ts.map tKT = (moveC m).map cKT ++ R2 → ∃ c x r, pathF ts = .ok (m.1, c :: x :: r) ∧ c.kind = 11 ∧ x.kind = 3 ∧ valL x.text = m.2 ∧ r.map tKT = R2 := by
        intro R2 h2
        simp only [moveC, List.map_append, List.map_cons, List.map_nil, List.append_assoc, List.cons_append, List.nil_append] at h2
        obtain ⟨r, h3, h4⟩ := path_back m.1 ts _ h2 (fun c hc => by simp at hc; subst hc; simp [cKT])
        cases r with
        | nil => simp at h4
        | cons c r =>
          cases r with
          | nil => simp at h4
          | cons x r =>
            simp only [List.map_cons, List.cons.injEq] at h4
            obtain ⟨e1, e2, e3⟩ := h4
            have hx : x.kind = 3 ∧ x.text = Lib.decDigits m.2 := by simpa [tKT, cKT] using e2
            exact ⟨c, x, r, h3, by simp [tKT, cKT] at e1; exact e1.1, hx.1, by rw [hx.2, dec_val], e3⟩
      cases l with
      | nil =>
        obtain ⟨c, x, r, h1, hc, hx, hv, h2⟩ := one R h
        refine ⟨[((ts.head?.map (fun x => x.at')).getD 0, m.1, valL x.text)], r, ?_, by simp [hv], h2⟩
        cases r with
        | nil => simp only [movesF, h1, if_pos hc, if_pos hx]
        | cons k q =>
          have hk : k.kind ≠ 6 := hR (tKT k) (by rw [← h2]; rfl)
          simp only [movesF, h1, if_pos hc, if_pos hx, if_neg hk]
      | cons k l =>
        simp only [movesC, List.map_append, List.map_cons, withGap_map, List.append_assoc, List.cons_append] at h
        obtain ⟨c, x, r, h1, hc, hx, hv, h2⟩ := one _ h
        cases r with
        | nil => simp at h2
        | cons d q =>
          rw [List.map_cons, List.cons.injEq] at h2
          have hd : d.kind = 6 := by have := h2.1; simp [tKT, cKT] at this; exact this.1
          have e2 : q.map tKT = (movesC (k :: l)).map cKT ++ R := by
            rw [h2.2]
            congr 1
            exact withGap_map _ _
          obtain ⟨v, u, g1, g2, g3⟩ := ih (k :: l) q R (by simp) e2 hR (by simp at hn ⊢; omega)
          refine ⟨((ts.head?.map (fun x => x.at')).getD 0, m.1, valL x.text) :: v, u, ?_, by simp [hv, g2], g3⟩
          simp only [movesF, h1, if_pos hc, if_pos hx, if_pos hd, g1]; rfl
theorem movesC_len (l : List (List Nat × Nat)) : l.length ≤ (movesC l).length := by
  induction l with
  | nil => simp
  | cons m l ih =>
    cases l with
    | nil => simp only [movesC, moveC, List.length_append, List.length_cons, List.length_nil]; omega
    | cons k l =>
      have hw : (withGap [32] (movesC (k :: l))).length = (movesC (k :: l)).length := by cases movesC (k :: l) <;> rfl
      simp only [movesC, List.length_append, List.length_cons, hw] at ih ⊢; omega
/-- What is written of moves is read as the same. -/
theorem movesR_back {l : List (List Nat × Nat)} (hl : l.length ≤ 1000) (hg : ∀ m ∈ l, FitM m) : ∃ ts, lexF 0 (layT (movesC l)) = .ok ts ∧ movesR ts = .ok l := by
  obtain ⟨ts, h1, h2⟩ := lex_lay gap_nil (moves_ok (e := []) stops_nil hg) 0
  rw [List.append_nil] at h1
  have h2 : ts.map tKT = (movesC l).map cKT ++ [(13, [])] := h2
  refine ⟨ts, h1, ?_⟩
  cases l with
  | nil =>
    simp only [movesC, List.map_nil, List.nil_append] at h2
    cases ts with
    | nil => simp at h2
    | cons c ts =>
      have hc : c.kind = 13 := by have := (List.cons.inj h2).1; simp [tKT] at this; exact this.1
      simp only [movesR, if_pos hc]
  | cons m l =>
    have hlt : (m :: l).length ≤ ts.length := by
      have h3 := congrArg List.length h2
      have h4 := movesC_len (m :: l)
      simp at h3 h4 ⊢; omega
    obtain ⟨v, r, g1, g2, g3⟩ := moves_back ts.length (m :: l) ts [(13, [])] (by simp) h2 (fun c hc => by simp at hc; subst hc; simp) hlt
    cases ts with
    | nil => simp at hlt
    | cons c ts =>
      have hc : ¬ c.kind = 13 := by
        intro hc
        have h6 : pathF (c :: ts) = .error c.at' := by rw [pathF, if_neg (by omega), if_neg (by omega)]
        have h5 : movesF (c :: ts).length (c :: ts) = .error c.at' := by
          conv => lhs; rw [List.length_cons]
          simp only [movesF, h6]
        rw [h5] at g1; cases g1
      cases r with
      | nil => simp at g3
      | cons d r =>
        have hd : d.kind = 13 := by have := (List.cons.inj g3).1; simp [tKT] at this; exact this.1
        have hvl : v.length = (m :: l).length := by have := congrArg List.length g2; simpa using this
        simp only [movesR, if_neg hc, g1, if_pos hd]
        rw [if_neg (by rw [hvl]; omega), g2]
end Go.Proofs.YtbjfpfnfbgncnaaGreatDoor
