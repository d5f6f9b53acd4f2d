import Derived.Test.YtbjfpfnfbgncnaaGreatDoorM12
import Derived.Test.YtbjfpfnfbgncnaaGreatDoorM15
import Derived.Deep.RegionHeld3
import Derived.Deep.RegionLaw
import Derived.Deep.DeepCutAuto
import Derived.Deep.RegionWith
/- The walks of end, Check, checkPlace of package term. -/
namespace Go.Proofs.YtbjfpfnfbgncnaaGreatDoor
set_option maxRecDepth 100000
open Go.RowKit
attribute [local go_sem ↓] Go.wp_at_zero Go.wp_at_succ
def endI (L : List Sym) (t : List Int) (p : Nat) : Int := match endO L t p with | some e => (e : Int) | none => -1
theorem endO_round {L : List Sym} {t : List Int} {p0 p k : Nat} (h : endO L t p0 = (scan L (k + 1) (t.drop p)).map (p + ·)) (hp : p < t.length) : endO L t p0 = (scan L (k + arN L t[p]) (t.drop (p + 1))).map (p + 1 + ·) := by
  rw [h, List.drop_eq_getElem_cons hp, scan, Option.map_map]
  congr 1
  funext x
  simp; omega
theorem endO_stop {L : List Sym} {t : List Int} {p0 p : Nat} (h : endO L t p0 = (scan L 0 (t.drop p)).map (p + ·)) : endI L t p0 = (p : Int) := by
  simp [endI, h, scan_zero]
theorem endO_none {L : List Sym} {t : List Int} {p0 p k : Nat} (h : endO L t p0 = (scan L (k + 1) (t.drop p)).map (p + ·)) (hp : t.length ≤ p) : endI L t p0 = -1 := by
  rw [List.drop_eq_nil_of_le hp] at h
  simp [endI, h, scan]
set_option maxHeartbeats 2000000 in
theorem end_any {n b : Nat} {w : World} {L : List Sym} (h : Sg n w b L) {ao : Option Addr} {cap : Nat} {t : List Int} (ht : IntsAt w ao t) (hm : t.length ≤ 2000) (p0 : Nat) (hp0 : p0 ≤ t.length) :
    Calls Tryz.prog 62 #[.pointer (some ⟨b, 0, none⟩), .slice ao t.length cap, .int .i64 (p0 : Int)] w fun e w' => e = .returned (.int .i64 (endI L t p0)) ∧ Same0 w w' := by
  have ha := h.2
  go_enter Tryz.func62, Tryz.ntmps62
  go_wp2
  go_loopw [2, 7] (fun at' la wr => ∃ p k : Nat, p0 ≤ p ∧ p ≤ t.length ∧ at' = .int .i64 (p : Int) ∧ la = .int .i64 ((k + 1 : Nat) : Int) ∧ k ≤ 6 * (p - p0) ∧ endO L t p0 = (scan L (k + 1) (t.drop p)).map (p + ·) ∧ Same0 w wr) (fun at' _ _ => t.length - (intOf at').toNat)
  case atStart => exact ⟨p0, 0, Nat.le_refl _, hp0, rfl, rfl, by omega, rfl, Kept.refl _ _⟩
  case round =>
    obtain ⟨p, k, h1, h2, rfl, rfl, h3, h4, hk⟩ := hrel
    by_cases hlt : p < t.length
    · obtain ⟨tb, off, rfl, htb, hc⟩ := (ht.same hk).get hlt
      have c := arity_any (h.same hk) t[p]
      have hle := arN_le ha t[p]
      have h5 := endO_round h4 hlt
      have H5 : Hid (endO L t p0 = (scan L (k + arN L t[p]) (t.drop (p + 1))).map (p + 1 + ·)) := h5
      clear h5 h4
      have i1 : (0 : Int) ≤ (p : Int) := by omega
      have i2 : (p : Int) < (t.length : Int) := by omega
      generalize arN L t[p] = a at *
      by_cases hz : k + a = 0
      · have z1 : ((k : Int) + 1 + ((a : Int) - 1) == 0) = true := by simp; omega
        have H6 : Hid (endI L t p0 = (p : Int) + 1) := by
          have H5 := H5.out
          rw [hz] at H5
          have := endO_stop H5
          show _ = _
          rw [this]; simp
        go_wp2_with (first | (go_at_call 90; refine c.mono ?_; rintro e w' ⟨rfl, hk1⟩))
        go_ret
        exact ⟨ret_int H6.out.symm, hk.trans' hk1⟩
      · have z1 : ((k : Int) + 1 + ((a : Int) - 1) == 0) = false := by simp; omega
        go_wp2_with (first | (go_at_call 90; refine c.mono ?_; rintro e w' ⟨rfl, hk1⟩))
        refine ⟨⟨p + 1, k + a - 1, by omega, by omega, by go_num, by congr 1; omega, by omega, ?_, hk.trans' hk1⟩, by simp [intOf]; omega⟩
        rw [show k + a - 1 + 1 = k + a by omega]
        exact H5.out
    · have H6 : Hid (endI L t p0 = -1) := endO_none h4 (by omega)
      go_wp2
      go_ret
      exact ⟨ret_int H6.out.symm, hk⟩
theorem badE_step {L : List Sym} {t : List Int} {p : Nat} (hp : p < t.length) (h : badE L (t.take p) = 0) : (numE L t[p] ≠ 0 → badE L t = numE L t[p]) ∧ (numE L t[p] = 0 → badE L (t.take (p + 1)) = 0) := by
  have e : t = t.take p ++ (t[p] :: t.drop (p + 1)) := by rw [← List.drop_eq_getElem_cons hp, List.take_append_drop]
  constructor
  · intro hn
    have h2 := badE_append L (t.take p) (t[p] :: t.drop (p + 1)) h
    rw [← e] at h2
    rw [h2, badE]
    unfold numE at hn ⊢
    by_cases q1 : (L.length : Int) ≤ t[p]
    · rw [if_pos q1, if_pos q1]
    · rw [if_neg q1, if_neg q1]
      rw [if_neg q1] at hn
      by_cases q2 : t[p] < -99
      · rw [if_pos q2, if_pos q2]
      · rw [if_neg q2] at hn; exact absurd rfl hn
  · intro hn
    rw [List.take_add_one, badE_append _ _ _ h, List.getElem?_eq_getElem hp]
    simpa [badE, numE] using hn
theorem checkE_long {L : List Sym} {t : List Int} (h : 2000 < t.length) : checkE L t = 20 := by simp [checkE, h]
theorem checkE_bad {L : List Sym} {t : List Int} (h : ¬ 2000 < t.length) (hb : badE L t ≠ 0) : checkE L t = badE L t := by simp [checkE, h, hb]
theorem checkE_end {L : List Sym} {t : List Int} (h : ¬ 2000 < t.length) (hb : badE L t = 0) : checkE L t = if endI L t 0 = (t.length : Int) then 0 else 23 := by
  have e : endI L t 0 = (t.length : Int) ↔ need L 1 t = some 0 := by
    constructor
    · intro h
      unfold endI endO at h
      cases hs : scan L 1 t with
      | none => simp [hs] at h
      | some m =>
        simp [hs] at h
        obtain rfl : m = t.length := by omega
        have := (scan_need hs).2
        simpa using this
    · intro h
      have := need_scan (b := []) h
      rw [List.append_nil] at this
      simp [endI, endO, this]
  simp only [checkE, h, hb, if_false, ne_eq, not_true, e]
set_option maxHeartbeats 2000000 in
theorem check_any {n b : Nat} {w : World} {L : List Sym} (h : Sg n w b L) {ao : Option Addr} {cap : Nat} {t : List Int} (ht : IntsAt w ao t) (hm : t.length ≤ maxLen) :
    Calls Tryz.prog 31 #[.pointer (some ⟨b, 0, none⟩), .slice ao t.length cap] w fun e w' => e = .returned (.int .i64 (checkE L t)) ∧ Same0 w w' := by
  unfold maxLen at hm
  by_cases hl : 2000 < t.length
  · have H : Hid (checkE L t = 20) := checkE_long hl
    go_enter Tryz.func31, Tryz.ntmps31
    go_wp2
    go_ret
    exact ⟨ret_int H.out.symm, Kept.refl _ _⟩
  · have hl' : t.length ≤ 2000 := by omega
    go_enter Tryz.func31, Tryz.ntmps31
    go_wp2
    go_loop [15] (fun i => ∃ p : Nat, p ≤ t.length ∧ i = .int .i64 (p : Int) ∧ badE L (t.take p) = 0) (fun i => t.length - (intOf i).toNat)
    case atStart => exact ⟨0, Nat.zero_le _, rfl, by simp [badE]⟩
    case round =>
      obtain ⟨p, h1, rfl, h2⟩ := hrel
      by_cases hlt : p < t.length
      · obtain ⟨tb, off, rfl, htb, hc⟩ := ht.get hlt
        have i1 : (0 : Int) ≤ (p : Int) := by omega
        have i2 : (p : Int) < (t.length : Int) := by omega
        have c := checkNumber_any h t[p]
        obtain ⟨s1, s2⟩ := badE_step hlt h2
        by_cases hz : numE L t[p] = 0
        · have S2 : Hid (badE L (t.take (p + 1)) = 0) := s2 hz
          rw [hz] at c
          clear s1 s2 h2
          go_wp2_with (first | (go_at_call 61; refine c.mono ?_; rintro e w' ⟨rfl, rfl⟩))
          exact ⟨⟨p + 1, by omega, by go_num, S2.out⟩, by simp [intOf]; omega⟩
        · have hb := s1 hz
          have H : Hid (checkE L t = numE L t[p]) := by show _ = _; rw [checkE_bad hl (by rw [hb]; exact hz), hb]
          have hz' : (numE L t[p] == 0) = false := by simpa using hz
          clear s1 s2 h2 hb
          go_wp2_with (first | (go_at_call 61; refine c.mono ?_; rintro e w' ⟨rfl, rfl⟩))
          go_ret
          exact ⟨ret_int H.out.symm, Kept.refl _ _⟩
      · obtain rfl : p = t.length := by omega
        rw [List.take_length] at h2
        have c := end_any (cap := cap) h ht hl' 0 (Nat.zero_le _)
        have he := checkE_end hl h2
        by_cases hz : endI L t 0 = (t.length : Int)
        · have H : Hid (checkE L t = 0) := by show _ = _; rw [he, if_pos hz]
          rw [hz] at c
          clear he
          go_wp2_with (first | (go_at_call 62; refine c.mono ?_; rintro e w' ⟨rfl, hk1⟩))
          all_goals
            go_ret
            exact ⟨ret_int H.out.symm, hk1⟩
        · have H : Hid (checkE L t = 23) := by show _ = _; rw [he, if_neg hz]
          have hz' : (endI L t 0 == (t.length : Int)) = false := by simpa using hz
          clear he
          go_wp2_with (first | (go_at_call 62; refine c.mono ?_; rintro e w' ⟨rfl, hk1⟩))
          all_goals
            go_ret
            exact ⟨ret_int H.out.symm, hk1⟩
/-- Check of no signature. -/
theorem check_nil (ao : Option Addr) (len cap : Nat) (w : World) : Calls Tryz.prog 31 #[.pointer none, .slice ao len cap] w fun e w' => e = .returned (.int .i64 1) ∧ w' = w := by
  go_enter Tryz.func31, Tryz.ntmps31
  go_wp2
  go_ret
  exact ⟨rfl, rfl⟩
end Go.Proofs.YtbjfpfnfbgncnaaGreatDoor
/- append of one element that takes several cells, to a row of the call's own; rows of words. -/
namespace Go.Proofs.YtbjfpfnfbgncnaaGreatDoor
open Go.RowKit
set_option linter.unusedVariables false
set_option maxRecDepth 100000
theorem info_of {T : TypeId} {z : Value} {k m : Nat} (h : (Tryz.prog.info? T).map (fun i => (i.zero, i.size, i.bytes)) = some (some z, k, m)) : ∃ i, Tryz.prog.info? T = some i ∧ i.zero = some z ∧ i.size = k ∧ i.bytes = m := by
  cases hi : Tryz.prog.info? T with
  | none => rw [hi] at h; simp at h
  | some i =>
    rw [hi] at h
    simp at h
    exact ⟨i, rfl, h.1, h.2.1, h.2.2⟩
/-- In a region that draws its order. -/
theorem step_elem {ops : Array Oper} {o : Oper} {a : Act} {w : World} (hgd : o.guard = none) (s x : Operand) (TS T : TypeId) (z : Value) (k m : Nat) (hu : Tryz.prog.underlying TS = some (.slice T))
  (hinfo : (Tryz.prog.info? T).map (fun i => (i.zero, i.size, i.bytes)) = some (some z, k, m)) (hz : z.cells.size = k) (hk : 0 < k) (hm : m ≤ 1000)
  (ho : o.op = .call { callee := .builtin .append, args := #[s, x], argTypes := #[TS, TS] })
  (base n : Nat) (xs : List Value) (v : Value) (hs : a.eval s = v) (hown : w.ownsRow base T k v n xs) (B : Nat) (cs : Array Value) (hB : w.heap[B]? = some (.cells cs T (0, 0))) (hcs : cs.size = k)
  (hx : a.eval x = .slice (some ⟨B, 0, none⟩) 1 1) (h1 : ∀ u ∈ cs.toList, u.oneCell' = true) (hn : n ≤ 100000) (hbase : base ≤ w.heap.size) {K : Act → World → Prop} {Q : Exit → Act → World → Prop} {E : Prop}
    (h : ∀ g cap w', w'.ownsRow base T k (.slice (some ⟨g, 0, none⟩) (n + 1) cap) (n + 1) (xs ++ cs.toList) → Kept (fun i => v.ownBlock = some i) w w' → (v.ownBlock = some g ∨ g = w.heap.size) → K (a.put o.dst (.slice (some ⟨g, 0, none⟩) (n + 1) cap)) w') :
    if Region.wanted o (yielded ops a.tmps) = true then Oper.wp Tryz.prog o a w K Q else E := by
  obtain ⟨i, hi, hz0, hz1, hz2⟩ := info_of hinfo
  have hb : (n + 1) * m ≤ 140737488355328 := Nat.le_trans (Nat.mul_le_mul (show n + 1 ≤ 100001 by omega) hm) (by omega)
  refine step_append_lies _ hgd s x TS ho base T i z k m hu hi hz0 hz1 hz2 hz hk v n xs hs hown ⟨B, 0, none⟩ 1 1 cs.toList hx (by simp [hcs]) (World.news_of_block hB) h1 (by omega) (by unfold maxLen; omega) hb hbase w.heap.size rfl ?_
  intro g cap w' hown' hgrow hat hlt
  exact h g cap w' hown' (Kept.grown (Kept.refl _ w) hgrow (fun _ e _ => e)) hat
/-- In a plain one. -/
theorem list_elem {ops : Array Oper} {o : Oper} {a : Act} {w : World} (hgd : o.guard = none) (s x : Operand) (TS T : TypeId) (z : Value) (k m : Nat) (hu : Tryz.prog.underlying TS = some (.slice T))
  (hinfo : (Tryz.prog.info? T).map (fun i => (i.zero, i.size, i.bytes)) = some (some z, k, m)) (hz : z.cells.size = k) (hk : 0 < k) (hm : m ≤ 1000)
  (ho : o.op = .call { callee := .builtin .append, args := #[s, x], argTypes := #[TS, TS] })
  (base n : Nat) (xs : List Value) (v : Value) (hs : a.eval s = v) (hown : w.ownsRow base T k v n xs) (B : Nat) (cs : Array Value) (hB : w.heap[B]? = some (.cells cs T (0, 0))) (hcs : cs.size = k)
  (hx : a.eval x = .slice (some ⟨B, 0, none⟩) 1 1) (h1 : ∀ u ∈ cs.toList, u.oneCell' = true) (hn : n ≤ 100000) (hbase : base ≤ w.heap.size) {rest : List Oper} {Q : Exit → Act → World → Prop}
    (h : ∀ g cap w', w'.ownsRow base T k (.slice (some ⟨g, 0, none⟩) (n + 1) cap) (n + 1) (xs ++ cs.toList) → Kept (fun i => v.ownBlock = some i) w w' → (v.ownBlock = some g ∨ g = w.heap.size) → wpList Tryz.prog ops Q rest (a.put o.dst (.slice (some ⟨g, 0, none⟩) (n + 1) cap)) w') :
    wpList Tryz.prog ops Q (o :: rest) a w := by
  obtain ⟨i, hi, hz0, hz1, hz2⟩ := info_of hinfo
  have hb : (n + 1) * m ≤ 140737488355328 := Nat.le_trans (Nat.mul_le_mul (show n + 1 ≤ 100001 by omega) hm) (by omega)
  refine wpList_append_lies _ hgd s x TS ho base T i z k m hu hi hz0 hz1 hz2 hz hk v n xs hs hown ⟨B, 0, none⟩ 1 1 cs.toList hx (by simp [hcs]) (World.news_of_block hB) h1 (by omega) (by unfold maxLen; omega) hb hbase w.heap.size rfl ?_
  intro g cap w' hown' hgrow hat hlt
  exact h g cap w' hown' (Kept.grown (Kept.refl _ w) hgrow (fun _ e _ => e)) hat
theorem info_word : (Tryz.prog.info? 116).map (fun i => (i.zero, i.size, i.bytes)) = some (some (.agg #[.int .i64 0, .int .i64 0, .string ByteArray.empty, .int .i64 0]), 4, 40) := by kernel_rfl
/-! ### rows of words -/
def wordV (x : Item) : List Value := [.int .i64 (x.t.kind : Int), .int .i64 (x.t.at' : Int), .string (txt x.t.text), .int .i64 (x.args : Int)]
def wordCells (l : List Item) : List Value := l.flatMap wordV
theorem wordCells_snoc (l : List Item) (x : Item) : wordCells (l ++ [x]) = wordCells l ++ wordV x := by simp [wordCells]
theorem wordCells_length (l : List Item) : (wordCells l).length = l.length * 4 := by
  induction l with
  | nil => rfl
  | cons x r ih => simp [wordCells, wordV] at ih ⊢; omega
theorem wordCells_at {l : List Item} {i : Nat} (h : i < l.length) : (wordCells l)[i * 4]? = some (.int .i64 (l[i].t.kind : Int)) ∧ (wordCells l)[i * 4 + 1]? = some (.int .i64 (l[i].t.at' : Int)) ∧ (wordCells l)[i * 4 + 2]? = some (.string (txt l[i].t.text)) ∧ (wordCells l)[i * 4 + 3]? = some (.int .i64 (l[i].args : Int)) := by
  induction l generalizing i with
  | nil => simp at h
  | cons x r ih =>
    have e : wordCells (x :: r) = .int .i64 (x.t.kind : Int) :: .int .i64 (x.t.at' : Int) :: .string (txt x.t.text) :: .int .i64 (x.args : Int) :: wordCells r := by simp [wordCells, wordV]
    rw [e]
    cases i with
    | zero => simp
    | succ j =>
      obtain ⟨a, b, c, d⟩ := ih (i := j) (by simpa using h)
      have e1 : (j + 1) * 4 = j * 4 + 1 + 1 + 1 + 1 := by omega
      refine ⟨?_, ?_, ?_, ?_⟩
      · rw [e1]; simpa using a
      · rw [e1, show j * 4 + 1 + 1 + 1 + 1 + 1 = (j * 4 + 1) + 1 + 1 + 1 + 1 by omega]; simpa using b
      · rw [e1, show j * 4 + 1 + 1 + 1 + 1 + 2 = (j * 4 + 2) + 1 + 1 + 1 + 1 by omega]; simpa using c
      · rw [e1, show j * 4 + 1 + 1 + 1 + 1 + 3 = (j * 4 + 3) + 1 + 1 + 1 + 1 by omega]; simpa using d
/-- A row of words, the call's own. -/
def WRow (base : Nat) (w : World) (v : Value) (l : List Item) : Prop := w.ownsRow base 116 4 v l.length (wordCells l)
theorem own_ge {base : Nat} {w : World} {e : TypeId} {size n : Nat} {v : Value} {xs : List Value} (h : w.ownsRow base e size v n xs) {k : Nat} (ek : v.ownBlock = some k) : base ≤ k ∧ k < w.heap.size := by
  rcases h.2 with ⟨rfl, _⟩ | ⟨g, cap, cur, rfl, hb, hg, _⟩
  · simp [Value.ownBlock] at ek
  · simp [Value.ownBlock] at ek; subst ek; exact ⟨hb, lt_of_at hg⟩
theorem WRow.nil (base : Nat) (w : World) : WRow base w (.slice none 0 0) [] := ⟨by simp [wordCells], .inl ⟨rfl, rfl⟩⟩
theorem WRow.kept {base : Nat} {w w' : World} {v : Value} {l : List Item} {S : Nat → Prop} (h : WRow base w v l) (hk : Kept S w w') (hs : ∀ k, v.ownBlock = some k → ¬ S k) : WRow base w' v l := hk.row h hs
theorem WRow.same {base : Nat} {w w' : World} {v : Value} {l : List Item} (h : WRow base w v l) (hk : Same0 w w') : WRow base w' v l := h.kept hk (fun _ _ f => f)
theorem WRow.own {base : Nat} {w : World} {v : Value} {l : List Item} (h : WRow base w v l) {k : Nat} (e : v.ownBlock = some k) : base ≤ k ∧ k < w.heap.size := own_ge h e
theorem WRow.get {base : Nat} {w : World} {ao : Option Addr} {cap : Nat} {l : List Item} (h : WRow base w (.slice ao l.length cap) l) {i : Nat} (hi : i < l.length) :
    ∃ g, ao = some ⟨g, 0, none⟩ ∧ base ≤ g ∧ g < w.heap.size ∧ w.cell? ⟨g, i * 4, none⟩ = some (.int .i64 (l[i].t.kind : Int)) ∧ w.cell? ⟨g, i * 4 + 1, none⟩ = some (.int .i64 (l[i].t.at' : Int)) ∧ w.cell? ⟨g, i * 4 + 2, none⟩ = some (.string (txt l[i].t.text)) ∧ w.cell? ⟨g, i * 4 + 3, none⟩ = some (.int .i64 (l[i].args : Int)) := by
  have h' : w.ownsRow base 116 4 (.slice ao l.length cap) l.length (wordCells l) := h
  obtain ⟨g, cap', hv, hb, hlt⟩ := h'.form (by omega)
  obtain ⟨rfl, _, rfl⟩ : ao = some ⟨g, 0, none⟩ ∧ l.length = l.length ∧ cap = cap' := by simpa using hv
  have hc := fun j hj => h'.cellAt j hj
  obtain ⟨a1, a2, a3, a4⟩ := wordCells_at hi
  have hl := wordCells_length l
  refine ⟨g, rfl, hb, hlt, ?_, ?_, ?_, ?_⟩
  · rw [hc _ (by omega), a1]
  · rw [hc _ (by omega), a2]
  · rw [hc _ (by omega), a3]
  · rw [hc _ (by omega), a4]
end Go.Proofs.YtbjfpfnfbgncnaaGreatDoor
/- What a term's reading holds in memory; its plain words. -/
namespace Go.Proofs.YtbjfpfnfbgncnaaGreatDoor
open Go.RowKit
set_option linter.unusedVariables false
set_option maxRecDepth 100000
/-- A call, at a step of a region that draws its order, by its contract. -/
theorem step_call {ops : Array Oper} {o : Oper} {a : Act} {w : World} {K : Act → World → Prop} {Q : Exit → Act → World → Prop} {E : Prop} {f : FuncId} {args : Array Value} {R : Ending → World → Prop} (hgd : o.guard = none)
    (c : Calls Tryz.prog f args w R) (hrun : (execOp a.eval o).run Tryz.prog w = .ok (.enter f args) w) {v : Value} (hR : ∀ e w', R e w' → e = .returned v ∧ (K (a.put o.dst v) w')) :
    if Region.wanted o (yielded ops a.tmps) = true then Oper.wp Tryz.prog o a w K Q else E := by
  have hw : Region.wanted o (yielded ops a.tmps) = true := by simp [Region.wanted, hgd]
  rw [if_pos hw]
  unfold Oper.wp
  rw [hrun, Oper.upon_enter]
  refine c.mono fun e w' h => ?_
  obtain ⟨rfl, h2⟩ := hR e w' h
  exact h2
/-- The variables that a term's reading lays: the reader, the words, where they began. -/
structure Laid3 (w W : World) (rb : Nat) (lv : Value) (n : Nat) : Prop where
  r0 : W.heap[w.heap.size]? = some (.cells #[.pointer (some ⟨rb, 0, none⟩)] 59 (0, 0))
  l0 : W.heap[w.heap.size + 1]? = some (.cells #[lv] 61 (0, 0))
  n0 : W.heap[w.heap.size + 1 + 1]? = some (.cells #[.int .i64 (n : Int)] 3 (0, 0))
theorem laid3 (w : World) (rb : Nat) (lv : Value) (n : Nat) : Laid3 w (((w.alloc (.cells #[.pointer (some ⟨rb, 0, none⟩)] 59)).alloc (.cells #[lv] 61)).alloc (.cells #[.int .i64 (n : Int)] 3)) rb lv n :=
  ⟨Kept.at (Kept.alloc (Kept.alloc (Kept.refl (fun _ => False) _) _) _) (heap_alloc_new w _) (fun f => f), Kept.at (Kept.alloc (Kept.refl (fun _ => False) _) _) (alloc_at1 w _ _) (fun f => f), alloc_at2 w _ _ _⟩
theorem Laid3.kept {w W W' : World} {rb : Nat} {lv : Value} {n : Nat} {S : Nat → Prop} (h : Laid3 w W rb lv n) (hk : Kept S W W') (hs : ∀ i, w.heap.size ≤ i → i < w.heap.size + 3 → ¬ S i) : Laid3 w W' rb lv n :=
  ⟨hk.at h.r0 (hs _ (by omega) (by omega)), hk.at h.l0 (hs _ (by omega) (by omega)), hk.at h.n0 (hs _ (by omega) (by omega))⟩
/-- In the midst of a term's reading: the words so far are is. -/
structure Mid (w : World) (rb tb base : Nat) (lv : Value) (n : Nat) (is : List Item) (wc : World) (lv1 : Value) : Prop where
  laid : Laid3 w wc rb lv1 n
  row : WRow base wc lv1 is
  own : ∀ k, lv1.ownBlock = some k → lv.ownBlock = some k ∨ w.heap.size + 3 ≤ k
  kept : Kept (fun i => i = rb ∨ lv.ownBlock = some i) w wc
  old : ∀ k, lv.ownBlock = some k → k ≠ rb ∧ k ≠ tb ∧ k < w.heap.size
  lt : rb < w.heap.size ∧ tb < w.heap.size
theorem Mid.rd {w : World} {rb tb base : Nat} {lv : Value} {n : Nat} {is : List Item} {wc wd : World} {lv1 : Value} (h : Mid w rb tb base lv n is wc lv1) (hk : Kept (fun i => i = rb) wc wd) : Mid w rb tb base lv n is wd lv1 := by
  refine ⟨h.laid.kept hk (fun i h1 h2 e => by have := h.lt; omega), h.row.kept hk (fun k e => ?_), h.own, h.kept.trans hk (fun i _ e => .inl e), h.old, h.lt⟩
  rcases h.own k e with e1 | e1
  · exact (h.old k e1).1
  · have := h.lt; omega
theorem Mid.out {w : World} {rb tb base : Nat} {lv : Value} {n : Nat} {is : List Item} {wc : World} {lv1 : Value} (h : Mid w rb tb base lv n is wc lv1) : ∀ k, lv1.ownBlock = some k → lv.ownBlock = some k ∨ w.heap.size ≤ k := fun k e => (h.own k e).imp id (fun h => by omega)
/-- The head of a term's reading: its first word. -/
def HeadPost (w : World) (rb tb base : Nat) (lv : Value) (l : List Item) (t : Tok) (r : List Tok) (wc : World) : Prop := ∃ lv1, Mid w rb tb base lv l.length (l ++ [⟨t, 0⟩]) wc lv1 ∧ RdAt wc rb tb r
theorem head_mid {w W w6 w7 : World} {rb tb base g gcap : Nat} {lv : Value} {l : List Item} {t : Tok} {r : List Tok} {o : Obj} (K0 : Same0 w W) (k6 : Kept (fun i => i = rb) W w6) (g0 : RdAt w6 rb tb r) (g1 : Laid3 w w6 rb lv l.length)
    (hr7 : w7.ownsRow base 116 4 (.slice (some ⟨g, 0, none⟩) (l.length + 1) gcap) (l.length + 1) (wordCells l ++ #[.int .i64 (t.kind : Int), .int .i64 (t.at' : Int), .string (txt t.text), .int .i64 0].toList))
    (hk7 : Kept (fun i => lv.ownBlock = some i) (w6.alloc o) w7) (hat7 : lv.ownBlock = some g ∨ g = (w6.alloc o).heap.size) (hd : ∀ k, lv.ownBlock = some k → k ≠ rb ∧ k ≠ tb) (how : ∀ k, lv.ownBlock = some k → k < w.heap.size) (bl : rb < w.heap.size ∧ tb < w.heap.size) :
    HeadPost w rb tb base lv l t r (w7.setCell ⟨w.heap.size + 1, 0, none⟩ (.slice (some ⟨g, 0, none⟩) (l.length + 1) gcap)) := by
  have hk7' := hk7.behind
  have L7 : Laid3 w w7 rb lv l.length := g1.kept hk7' (fun i h1 h2 e => by have := how i e; omega)
  have hs : Kept (fun i => i = w.heap.size + 1) w7 (w7.setCell ⟨w.heap.size + 1, 0, none⟩ (.slice (some ⟨g, 0, none⟩) (l.length + 1) gcap)) := Kept.setCell (p := ⟨w.heap.size + 1, 0, none⟩) (Kept.refl (fun i => i = w.heap.size + 1) w7) (fun _ => rfl) _
  have h3 : w.heap.size + 3 ≤ w6.heap.size := by have := lt_of_at g1.n0; omega
  have hg : lv.ownBlock = some g ∨ w.heap.size + 3 ≤ g := hat7.imp id (fun e => by simp only [World.size_alloc] at e; omega)
  have hgn : g ≠ w.heap.size + 1 := by
    rcases hg with e | e
    · have := how g e; omega
    · omega
  refine ⟨.slice (some ⟨g, 0, none⟩) (l.length + 1) gcap, ⟨⟨hs.at L7.r0 (by omega), by rw [setAt L7.l0]; simp, hs.at L7.n0 (by omega)⟩, ?_, ?_, ?_, fun k e => ⟨(hd k e).1, (hd k e).2, how k e⟩, bl⟩, ?_⟩
  · have : w7.ownsRow base 116 4 (.slice (some ⟨g, 0, none⟩) (l.length + 1) gcap) (l ++ [(⟨t, 0⟩ : Item)]).length (wordCells (l ++ [⟨t, 0⟩])) := by
      rw [wordCells_snoc, List.length_append]; exact hr7
    exact hs.row this (fun k e => by simp [Value.ownBlock] at e; omega)
  · intro k e
    simp [Value.ownBlock] at e
    subst e; exact hg
  · have h1 : Kept (fun i => i = rb ∨ lv.ownBlock = some i) w w6 := (Kept.mono K0 (fun _ _ f => f.elim)).trans k6 (fun i _ e => .inl e)
    have h2 := h1.trans hk7' (fun i _ e => .inr e)
    exact h2.trans hs (fun i hi e => by omega)
  · have := g0.kept hk7' (fun e => (hd _ e).1 rfl) (fun e => (hd _ e).2 rfl)
    exact this.kept hs (by omega) (by omega)
/-- What a term's reading comes to. -/
def TermCame (base rb tb : Nat) (w : World) (ts : List Tok) (lv : Value) (acc : List Item) (R : Except Nat (List Item × List Tok)) (e : Ending) (w' : World) : Prop := match R with
  | .ok (is, r) => ∃ lv', e = .returned lv' ∧ RdAt w' rb tb r ∧ WRow base w' lv' (acc ++ is) ∧ (∀ k, lv'.ownBlock = some k → lv.ownBlock = some k ∨ w.heap.size ≤ k) ∧ Kept (fun i => i = rb ∨ lv.ownBlock = some i) w w' ∧ EndsT r ∧ r.length < ts.length ∧ is.length + r.length ≤ ts.length
  | .error p => GaveUp w.heap.size w' e 41 p ∧ Kept (fun i => i = rb ∨ lv.ownBlock = some i) w w'
def TermGood (f : Nat) : Prop := ∀ (rb tb base : Nat) (ts : List Tok) (lv : Value) (acc : List Item) (w : World), ts.length ≤ f → EndsT ts → RdAt w rb tb ts → WRow base w lv acc → base ≤ w.heap.size → acc.length + ts.length ≤ 50000 →
  (∀ k, lv.ownBlock = some k → k ≠ rb ∧ k ≠ tb) → Calls Tryz.prog 23 #[.pointer (some ⟨rb, 0, none⟩), lv] w (TermCame base rb tb w ts lv acc (termF f ts))
/-- One argument more. -/
def bumpA (n : Nat) (l : List Item) : List Item := l.modify n (fun x => ⟨x.t, x.args + 1⟩)
def oneT (f n : Nat) (ts : List Tok) (a : List Item) : Except Nat (List Item × List Tok) := match termF f ts with
  | .error p => .error p
  | .ok (is, r) => .ok (bumpA n (a ++ is), r)
end Go.Proofs.YtbjfpfnfbgncnaaGreatDoor
