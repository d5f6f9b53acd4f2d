import Derived.Test.YtppdopccipngpaaGRule13
import Derived.SizedLaws
/- The walks of At, and of the laws' begun. -/
namespace Go.Proofs.Ytppdopccipngpaa
set_option maxRecDepth 100000
set_option linter.unusedVariables false
open Go.RowKit
attribute [local go_sem ↓] Go.wp_at_zero Go.wp_at_succ
set_option maxHeartbeats 2000000 in
theorem sat_no {w : World} {b bs : Nat} {L : List Sym} {R : List Ru} {lv : Value} {vs : List Value} (h : StAt w b bs L R lv vs) (n : Int) (hn : n < 0 ∨ (R.length : Int) ≤ n) :
    Calls Try.prog 11 #[.pointer (some ⟨b, 0, none⟩), .int .i64 n] w fun e w' => e = .returned (.tuple #[.agg #[.slice none 0 0, .slice none 0 0], .int .i64 79]) ∧ Same0 w w' := by
  have K : ∀ o, Same0 w (w.alloc o) := fun o => (Kept.refl _ w).alloc o
  obtain ⟨ro, rc, rfl, hR⟩ := h.read
  have C := fun o => (hR.same (K o)).cells.2
  clear h hR
  rcases hn with hn | hn
  · go_enter Try.func11, Try.ntmps11
    go_wp2
    exact bodyPost_ret (v := .tuple #[.agg #[.slice none 0 0, .slice none 0 0], .int .i64 79]) (by simp [results, Try.results11, go_sem]) rfl ⟨rfl, K _⟩
  · have hn' : ¬ n < 0 := by omega
    go_enter Try.func11, Try.ntmps11
    go_wp2
    exact bodyPost_ret (v := .tuple #[.agg #[.slice none 0 0, .slice none 0 0], .int .i64 79]) (by simp [results, Try.results11, go_sem]) rfl ⟨rfl, K _⟩
/-- A rule that is given out: each side in new memory. -/
def RuOut (base : Nat) (w : World) (v : Value) (x : Ru) : Prop := ∃ g c g' c', v = .agg #[.slice (some ⟨g, 0, none⟩) x.1.length c, .slice (some ⟨g', 0, none⟩) x.2.length c'] ∧ TmAt w g c x.1 ∧ TmAt w g' c' x.2 ∧ base ≤ g ∧ base ≤ g' ∧ g ≠ g'
set_option maxHeartbeats 2000000 in
theorem sat_yes {w : World} {b bs : Nat} {L : List Sym} {R : List Ru} {lv : Value} {vs : List Value} (h : StAt w b bs L R lv vs) (i : Nat) (hi : i < R.length) :
    Calls Try.prog 11 #[.pointer (some ⟨b, 0, none⟩), .int .i64 (i : Int)] w fun e w' => ∃ v, e = .returned (.tuple #[v, .int .i64 0]) ∧ RuOut w.heap.size w' v R[i] ∧ Same0 w w' := by
  have K : Same0 w (w.alloc (.cells #[.slice none 0 0, .slice none 0 0] 39)) := (Kept.refl _ w).alloc _
  have hz := ok_len (h.ok _ (List.getElem_mem hi))
  have hle := h.le
  obtain ⟨ro, rc, rfl, hR⟩ := h.read
  have hR1 := hR.same K
  have C := hR1.cells.2
  obtain ⟨gb, goff, rfl, hgb, ao, ac, bo, bc, r0, r1, A1, A2⟩ := hR1.rs.get hi
  have CC := copied_any (ac := ac) (bc := bc) (x := R[i]) A1.at' A2.at' hz.1.1 hz.2.1 hz.1.2 hz.2.2
  have G0 := heap_alloc_new w (.cells #[.slice none 0 0, .slice none 0 0] 39)
  have HF : Hid (∀ ww, Same0 (w.alloc (.cells #[.slice none 0 0, .slice none 0 0] 39)) ww → (ww.cell? ⟨w.heap.size, 0, none⟩ = some (.slice none 0 0) ∧ ww.cell? ⟨w.heap.size, 1, none⟩ = some (.slice none 0 0)) ∧ ww.frozen? ⟨w.heap.size, 0, none⟩ = false ∧ ww.frozen? ⟨w.heap.size, 1, none⟩ = false) := fun ww hk => ⟨⟨cellAt (hk.at0 G0) 0, cellAt (hk.at0 G0) 1⟩, frozenAt (hk.at0 G0) 0, frozenAt (hk.at0 G0) 1⟩
  have HR : Hid (∀ ww (A B : Value), Same0 (w.alloc (.cells #[.slice none 0 0, .slice none 0 0] 39)) ww → ((ww.setCell ⟨w.heap.size, 0, none⟩ A).setCell ⟨w.heap.size, 1, none⟩ B).cell? ⟨w.heap.size, 0, none⟩ = some A ∧ ((ww.setCell ⟨w.heap.size, 0, none⟩ A).setCell ⟨w.heap.size, 1, none⟩ B).cell? ⟨w.heap.size, 1, none⟩ = some B) := fun ww A B hk => by
    have b := setAt (setAt (hk.at0 G0) 0 A) 1 B
    exact ⟨cellAt b 0, cellAt b 1⟩
  have HE : Hid (∀ ww (A B : Value), Same0 (w.alloc (.cells #[.slice none 0 0, .slice none 0 0] 39)) ww → Same0 w ((ww.setCell ⟨w.heap.size, 0, none⟩ A).setCell ⟨w.heap.size, 1, none⟩ B)) := fun ww A B hk => ((K.trans' hk).setCell (fun h => absurd h (by simp)) _).setCell (fun h => absurd h (by simp)) _
  have HT : Hid (∀ ww g c xs (A B : Value), TmAt ww g c xs → w.heap.size + 1 ≤ g → TmAt ((ww.setCell ⟨w.heap.size, 0, none⟩ A).setCell ⟨w.heap.size, 1, none⟩ B) g c xs) := fun ww g c xs A B ht hg => by
    have k : Kept (fun k => k = w.heap.size) ww ((ww.setCell ⟨w.heap.size, 0, none⟩ A).setCell ⟨w.heap.size, 1, none⟩ B) := Kept.setCell (p := ⟨w.heap.size, 1, none⟩) (Kept.setCell (p := ⟨w.heap.size, 0, none⟩) (Kept.refl (fun k => k = w.heap.size) ww) (fun _ => rfl) A) (fun _ => rfl) B
    exact k.row ht (fun i e => by simp [Value.ownBlock] at e; omega)
  have i1 : (0 : Int) ≤ (i : Int) := by omega
  have i2 : (i : Int) < (R.length : Int) := by omega
  clear h hR hR1 K A1 A2 hz G0
  simp only [World.size_alloc] at CC
  go_enter Try.func11, Try.ntmps11
  go_wp2_with (first | (go_at_call 24; refine CC.mono ?_; rintro e w2 ⟨g, c, g', c', rfl, t1, t2, q1, q2, q3, hk2⟩; obtain ⟨⟨c1, c2⟩, f1, f2⟩ := HF.out _ hk2))
  exact bodyPost_ret (v := .tuple #[.agg #[.slice (some ⟨g, 0, none⟩) R[i].1.length c, .slice (some ⟨g', 0, none⟩) R[i].2.length c'], .int .i64 0]) (by obtain ⟨r0, r1⟩ := HR.out w2 (.slice (some ⟨g, 0, none⟩) R[i].1.length c) (.slice (some ⟨g', 0, none⟩) R[i].2.length c') hk2; simp [results, Try.results11, go_sem, r0, r1]) rfl ⟨_, rfl, ⟨g, c, g', c', rfl, HT.out _ _ _ _ _ _ t1 q1, HT.out _ _ _ _ _ _ t2 q2, by omega, by omega, q3⟩, HE.out _ _ _ hk2⟩
/-- What begun gives: the program's store and the document's, over the same symbols. -/
def BegPost (L : List Sym) (w : World) (e : Ending) (w' : World) : Prop :=
  ∃ q bs b m rv, e = .returned (.pointer (some ⟨q, 0, none⟩)) ∧ w'.heap[q]? = some (.cells #[.pointer (some ⟨bs, 0, none⟩), .pointer (some ⟨b, 0, none⟩), .pointer (some ⟨m, 0, none⟩)] 33 (0, 0)) ∧ StAt w' b bs L [] (.slice none 0 0) [] ∧ w'.heap[m]? = some (.cells #[rv, .slice none 0 0] 67 (0, 0)) ∧ Rl w'.heap.size w' rv L ∧ Same0 w w' ∧ w.heap.size ≤ b ∧ w.heap.size ≤ q ∧ w.heap.size ≤ m
set_option maxHeartbeats 2000000 in
theorem begun_any (ao : Option Addr) (len cap : Nat) (xs : List Sym) (w : World) (hx : SymsAt w ao len xs) (hm : len ≤ maxLen) :
    Calls Try.prog 8 #[.slice ao len cap] w (BegPost (madeL xs) w) := by
  have CM := made_any ao len cap xs w hx hm
  clear hx hm
  go_enter Try.func8, Try.ntmps8
  go_wp2_with (first | (go_at_call 21; refine CM.mono ?_; rintro e w1 ⟨bs, rv, rfl, hsg, hrl, hk1⟩; obtain ⟨ro, rc, rfl⟩ := row_shape hrl.1; have CN := snew_any hsg) | (go_at_call 20; refine CN.mono ?_; rintro e w2 ⟨rfl, hst, hk2⟩))
  go_ret
  have K3 : Same0 w2 (w2.alloc (.cells #[.slice ro (madeL xs).length rc, .slice none 0 0] 67)) := (Kept.refl _ _).alloc _
  have K4 : Same0 (w2.alloc (.cells #[.slice ro (madeL xs).length rc, .slice none 0 0] 67)) ((w2.alloc (.cells #[.slice ro (madeL xs).length rc, .slice none 0 0] 67)).alloc (.cells #[.pointer (some ⟨bs, 0, none⟩), .pointer (some ⟨w1.heap.size, 0, none⟩), .pointer (some ⟨w2.heap.size, 0, none⟩)] 33)) := (Kept.refl _ _).alloc _
  have z1 := hk1.size
  have z2 := hk2.size
  refine ⟨_, bs, w1.heap.size, w2.heap.size, .slice ro (madeL xs).length rc, rfl, heap_al_al _ _ _, (hst.same K3).same K4, K4.at0 (heap_alloc_new _ _), ?_, ((hk1.trans' hk2).trans' K3).trans' K4, by omega, by omega, by omega⟩
  have hr := ((hrl.same hk2).same K3).same K4
  exact ⟨hr.1, fun k e => (hr.1.lt k e).2, hr.2.2⟩
end Go.Proofs.Ytppdopccipngpaa
/- Rules that were taken, in plain words; the argument of layer 7's statements, opened. -/
namespace Go.Proofs.Ytppdopccipngpaa
set_option linter.unusedVariables false
set_option maxRecDepth 100000
open Go.RowKit Go.Deep
/-- Rules that were taken. -/
def GoodR (L : List Sym) (R : List Ru) : Prop := R.length ≤ 100 ∧ ∀ i (h : i < R.length) (j : Nat), j + 1 < 8 → askB L 0 (R.take i) R[i] (j + 1) = true
theorem GoodR.nil (L : List Sym) : GoodR L [] := ⟨by simp, fun i h => absurd h (by simp)⟩
theorem ask_any (L : List Sym) (N M : Nat) (A : List Ru) (x : Ru) (j : Nat) : askB L N A x (j + 1) = askB L M A x (j + 1) := by
  match j with
  | 0 => rfl
  | 1 => rfl
  | 2 => rfl
  | 3 => rfl
  | 4 => rfl
  | 5 => rfl
  | j + 6 => rfl
theorem GoodR.add {L : List Sym} {R l : List Ru} (h : GoodR L R) (ha : Ans L R l []) : GoodR L (R ++ l) := by
  refine ⟨by simpa using (ha.fit h.1).1, fun i hi j hj => ?_⟩
  by_cases hl : i < R.length
  · rw [List.getElem_append_left hl, List.take_append_of_le_length (by omega)]
    exact h.2 i hl j hj
  · have hm : i - R.length < l.length := by simp at hi; omega
    have := ha.nil (j + 1) hj (i - R.length) hm
    rw [List.getElem_append_right (by omega), List.take_append, List.take_of_length_le (by omega)]
    unfold ckB at this
    rw [ask_any L _ 0] at this
    simpa [List.getD, hm] using this
structure RFacts (L : List Sym) (R : List Ru) (i : Nat) (x : Ru) : Prop where
  ok : checkE L x.1 = 0 ∧ checkE L x.2 = 0
  l1 : x.1.length ≤ 200
  l2 : x.2.length ≤ 200
  pos : 0 < x.1.length
  top : ∀ h : 0 < x.1.length, defB L x.1[0] = true
  low : ∀ k (h : k < x.1.length), 0 < k → defB L x.1[k] = false
  apart : ∀ k (hk : k < i) (h : k < R.length), claB L x.1 R[k].1 = true ∧ claE L x.1 R[k].1 = 0
theorem GoodR.facts {L : List Sym} {R : List Ru} (h : GoodR L R) {i : Nat} (hi : i < R.length) : RFacts L R i R[i] := by
  have ok : ∀ k (hk : k < R.length), checkE L R[k].1 = 0 ∧ checkE L R[k].2 = 0 := fun k hk => by
    have := h.2 k hk 0 (by omega)
    simpa [askB] using this
  have o := ok i hi
  have s := h.2 i hi 1 (by omega)
  have t := h.2 i hi 2 (by omega)
  have b := h.2 i hi 4 (by omega)
  have v := h.2 i hi 6 (by omega)
  have hp := (ok_len o).1.1
  simp only [askB, Bool.and_eq_true, decide_eq_true_eq] at s t b v
  refine ⟨o, s.1, s.2, hp, fun hp' => ?_, fun k hk h0 => ?_, fun k hk hk' => ?_⟩
  · have e1 : R[i].1.headD (-1) = R[i].1[0] := by
      generalize R[i].1 = y at *
      cases y with
      | nil => simp at hp
      | cons y r => simp
    rw [← e1]; exact t
  · have := List.all_eq_true.1 b R[i].1[k] (by
      rw [List.mem_iff_getElem]
      exact ⟨k - 1, by simp; omega, by simp; congr 1; omega⟩)
    simpa using this
  · have := List.all_eq_true.1 v R[k] (by
      rw [List.mem_iff_getElem]
      exact ⟨k, by simp; omega, by simp⟩)
    have ok' := ok k hk'
    rw [meetB_eq ok'.1 o.1] at this
    exact ⟨by simpa using this, by simp [claE, o.1, ok'.1]⟩
theorem bytes_rule : Try.prog.bytesOf 39 = 48 := by kernel_rfl
theorem cells_rule : Try.prog.cellsOf 39 = 2 := by kernel_rfl
theorem cells_rules : Try.prog.cellsOf 24 = 1 := by kernel_rfl
/-- Rules that came in. -/
structure ArgR (w : World) (lo : Option Addr) (l : List Ru) (cap : Nat) : Prop where
  at' : RsAt w lo l
  cap' : l.length ≤ cap
  size : l.length * 48 ≤ 140737488351232
section
variable {H : Type} {enc : TypeId × Value → H} {w : World} {spare : Nat → Bool} {held : Bool}
theorem weightsAll_mem7 {P : Program} {e : TypeId} {l : List (DataW H)} {d : DataW H} (h : d ∈ l) {n : Nat} (hn : n ∈ d.weights P e) : n ∈ DataW.weightsAll P e l := by
  induction l with
  | nil => cases h
  | cons x r ih =>
    simp only [DataW.weightsAll, List.mem_append]
    rcases List.mem_cons.1 h with q | q
    · subst q; exact .inl hn
    · exact .inr (ih q)
/-- The elements of a slice, their weights among its own. -/
theorem open_elems7 {t e c fuel : Nat} {ao : Option Addr} {len cap : Nat} {x : DataW H × List MemPlace} (ht : Try.prog.underlying t = some (.slice e)) (hc : Try.prog.cellsOf e = c) (h0 : 0 < c) (h : DataW.trod enc Try.prog w 0 spare held fuel t [.slice ao len cap] = some x) (hw : ∀ n ∈ x.1.weights Try.prog t, n ≤ reachBytes) :
    (ao = none ∧ len = 0 ∧ cap = 0) ∨ ∃ a, ao = some a ∧ len ≤ cap ∧ cap ≤ maxLen ∧ len * Try.prog.bytesOf e ≤ reachBytes ∧ ∀ i, i < len → a = ⟨a.block, a.off, none⟩ ∧ a.block < w.heap.size ∧ ∃ cs n y, cs.length = c ∧ (∀ j, j < c → w.cell? ⟨a.block, a.off + i * c + j, none⟩ = cs[j]?) ∧ DataW.trod enc Try.prog w 0 spare held n e cs = some y ∧ ∀ n ∈ y.1.weights Try.prog e, n ≤ reachBytes := by
  rcases open_slice ht h with ⟨hcs, _⟩ | ⟨a, len', cap', m, n, D, Pl, hcs, _, hl, hm, hmm, rfl, hx⟩
  · simp at hcs; exact .inl ⟨hcs.1, hcs.2.1, hcs.2.2⟩
  · simp at hcs
    obtain ⟨rfl, rfl, rfl⟩ := hcs
    have hb : len * Try.prog.bytesOf e ≤ reachBytes := by
      have := hw ((((List.range len).map D).length + ((List.range (m - len)).map fun j => D (len + j)).length) * Try.prog.bytesOf e) (by simp [DataW.weights, ht])
      refine Nat.le_trans (Nat.mul_le_mul_right _ ?_) this
      simp
    refine .inr ⟨a, rfl, hl, hm, hb, fun i hi => ?_⟩
    have hmi : i < m := by rw [hmm]; split <;> omega
    have hm0 : 0 < m := by omega
    obtain ⟨cs0, g0, _⟩ := hx 0 hm0
    rw [hc] at g0
    obtain ⟨_, gl, gc⟩ := World.cells?_some g0
    have hsp : a.spot = none := by
      have := gc 0 h0
      have hv : cs0[0]? = some (cs0[0]'(by omega)) := List.getElem?_eq_getElem (by omega)
      rw [hv] at this
      simp [Addr.add] at this
      exact World.cell?_spot this
    have hlt : a.block < w.heap.size := World.cells?_block (by simpa [Addr.add] using g0) h0
    have ea : a = ⟨a.block, a.off, none⟩ := by cases a; simp_all
    obtain ⟨cs, g1, g2⟩ := hx i hmi
    rw [hc] at g1
    obtain ⟨_, gl1, gc1⟩ := World.cells?_some g1
    refine ⟨ea, hlt, cs, n, _, gl1, fun j hj => ?_, g2, fun k hk => hw k ?_⟩
    · rw [← gc1 j hj, add_add]
      congr 1
      unfold Addr.add
      split
      · rw [ea]; simp; omega
      · simp
    · simp only [DataW.weights, ht, List.mem_cons, List.mem_append]
      exact .inr (.inl (weightsAll_mem7 (List.mem_map.2 ⟨i, by simpa using hi, rfl⟩) hk))
theorem trod_pair7 {P : Program} {base : Nat} {t : TypeId} {f0 f1 : Field} {fuel : Nat} {cs : List Value} {x : DataW H × List MemPlace} (ht : P.underlying t = some (.struct #[f0, f1])) (h : DataW.trod enc P w base spare held fuel t cs = some x) :
    ∃ y0 y1 n, x.1 = .agg [y0.1, y1.1] ∧ cs.length = P.cellsOf t ∧ DataW.trod enc P w base spare held n f0.type ((cs.drop f0.offset).take (P.cellsOf f0.type)) = some y0 ∧ DataW.trod enc P w base spare held n f1.type ((cs.drop f1.offset).take (P.cellsOf f1.type)) = some y1 := by
  obtain ⟨xs, n, _, rfl, hl, hlen, hf⟩ := DataW.trod_struct ht h
  match xs, hlen with
  | [y0, y1], _ => exact ⟨y0, y1, n, by simp, hl, by simpa using hf 0 f0 rfl, by simpa using hf 1 f1 rfl⟩
theorem open_rules {fuel : Nat} {ao : Option Addr} {len cap : Nat} {x : DataW H × List MemPlace} (h : DataW.trod enc Try.prog w 0 spare held fuel 24 [.slice ao len cap] = some x) (hw : ∀ n ∈ x.1.weights Try.prog 24, n ≤ reachBytes) :
    ∃ l, l.length = len ∧ ArgR w ao l cap := by
  rcases open_elems7 Try.underlying24 cells_rule (by omega) h hw with ⟨rfl, rfl, rfl⟩ | ⟨a, rfl, hl1, hl2, hsz, hall⟩
  · exact ⟨[], rfl, .inl rfl, Nat.le_refl _, by simp⟩
  · rw [bytes_rule] at hsz
    have each : ∀ i, i < len → ∃ x : Ru, RuAt w a.block (a.off + i * 2) x := by
      intro i hi
      obtain ⟨_, _, cs, n, y, hl, hcell, hy, hyw⟩ := hall i hi
      obtain ⟨y0, y1, n', hyd, hl', g0, g1⟩ := trod_pair7 Try.underlying39 hy
      match cs, hl with
      | [c0, c1], _ =>
        simp only [cells_term, List.drop_zero, List.take_succ_cons, List.take_zero, List.drop_succ_cons] at g0 g1
        have hyw0 : ∀ n ∈ y0.1.weights Try.prog 37, n ≤ reachBytes := fun n hn => hyw n (by
          rw [hyd]
          simp only [DataW.weights, Try.underlying39]
          simp [DataW.weightsEach, hn])
        have hyw1 : ∀ n ∈ y1.1.weights Try.prog 37, n ≤ reachBytes := fun n hn => hyw n (by
          rw [hyd]
          simp only [DataW.weights, Try.underlying39]
          simp [DataW.weightsEach, hn])
        obtain ⟨xo, xc, xs, e0, k0⟩ := open_ints Try.underlying37 g0 hyw0
        obtain ⟨yo, yc, ys, e1, k1⟩ := open_ints Try.underlying37 g1 hyw1
        simp only [List.cons.injEq, and_true] at e0 e1
        subst e0 e1
        exact ⟨(xs, ys), xo, xc, yo, yc, by simpa using hcell 0 (by omega), by simpa using hcell 1 (by omega), k0, k1⟩
    obtain ⟨f, hf⟩ := Classical.axiomOfChoice (r := fun (i : Fin len) (x : Ru) => RuAt w a.block (a.off + i * 2) x) (fun i => each i i.2)
    refine ⟨List.ofFn f, by simp, ?_, by simpa using hl1, by simpa [reachBytes] using hsz⟩
    by_cases h0 : len = 0
    · subst h0; exact .inl (by simp)
    · obtain ⟨ea, hlt, _⟩ := hall 0 (by omega)
      refine .inr ⟨a.block, a.off, by rw [← ea], hlt, fun i hi => ?_⟩
      have hi' : i < len := by simpa using hi
      simpa using hf ⟨i, hi'⟩
end
end Go.Proofs.Ytppdopccipngpaa
/- The walk of RulesHold. -/
namespace Go.Proofs.Ytppdopccipngpaa
set_option linter.unusedVariables false
set_option maxRecDepth 100000
open Go.RowKit
attribute [local go_sem ↓] Go.wp_at_zero Go.wp_at_succ
/-- What Add has done, whatever it answered. -/
def AddOut (L : List Sym) (R l : List Ru) (b bs base : Nat) (w : World) (e : Ending) (w' : World) : Prop :=
  ∃ v R' lv' vs', e = .returned v ∧ StAt w' b bs L R' lv' vs' ∧ GoodR L R' ∧ Kept (From base) w w' ∧ Kept (IsSt w) w w' ∧ (∀ k, lv'.ownBlock = some k → base ≤ k) ∧
    ((v = .nilIface ∧ R' = R ++ l ∧ Ans L R l []) ∨ ((∃ k, v = .iface 78 (.pointer (some ⟨k, 0, none⟩))) ∧ R' = R ∧ ¬ Ans L R l []))
theorem add_out {w : World} {b bs base : Nat} {L : List Sym} {R : List Ru} {lv : Value} {vs : List Value} {lo : Option Addr} {l : List Ru} {lc : Nat} (h : StAt w b bs L R lv vs) (hg : GoodR L R) (hb : base ≤ b) (hlv : ∀ k, lv.ownBlock = some k → base ≤ k) (hw : base ≤ w.heap.size) (hl : RsAt w lo l) (hll : l.length ≤ 140737488355328) (hlc : l.length ≤ lc) :
    Calls Try.prog 9 #[.pointer (some ⟨b, 0, none⟩), .slice lo l.length lc] w (AddOut L R l b bs base w) := by
  refine (add_rules h hl hll hlc).mono ?_
  rintro e w' ⟨ws, v, rfl, hA, hv, hws, hno, hyes⟩
  rcases hA.flt hv with ⟨rfl, rfl⟩ | ⟨hne, k, rfl⟩
  · obtain ⟨lv', vs', q1, q2, q3⟩ := hyes rfl
    refine ⟨_, R ++ l, lv', vs', rfl, q1, hg.add hA, q2.mono (fun i _ e => ?_), q2.mono (fun i _ e => h.isSt i e), fun k e => ?_, .inl ⟨rfl, rfl, hA⟩⟩
    · rcases e with e | e
      · subst e; exact hb
      · exact hlv i e
    · rcases q3 k e with q | q
      · exact hlv k q
      · omega
  · have hk := hno hne
    exact ⟨_, R, lv, vs, rfl, h.same hk, hg, hk.mono', hk.mono', hlv, .inr ⟨⟨k, rfl⟩, rfl, fun hn => hne (hA.uniq hn)⟩⟩
theorem hold_eqn (w : World) : (binOp .eql 28 .nilIface .nilIface).run Try.prog w = .ok (.bool true) w := by kernel_rfl
theorem hold_eqf (v : Value) (w : World) : (binOp .eql 28 (.iface 78 v) .nilIface).run Try.prog w = .ok (.bool false) w := by kernel_rfl
theorem hold_gn (k : Nat) (w : World) : (eqGuard .eql 28 (.tmp k) (.const .nilIface) .nilIface .nilIface).run Try.prog w = .ok () w := by kernel_rfl
theorem hold_gf (v : Value) (k : Nat) (w : World) : (eqGuard .eql 28 (.tmp k) (.const .nilIface) (.iface 78 v) .nilIface).run Try.prog w = .ok () w := by kernel_rfl
theorem side_kept {w w' : World} {q : Nat} {cs : Array Value} (h : w.heap[q]? = some (.cells cs 33 (0, 0))) (hk : Kept (IsSt w) w w') : w'.heap[q]? = some (.cells cs 33 (0, 0)) :=
  hk.at h (fun e => by rcases e with ⟨c, e⟩ | ⟨c, e⟩ <;> (rw [h] at e; cases e))
set_option maxHeartbeats 8000000 in
theorem hold_walk {w : World} {ao : Option Addr} {len cap : Nat} {xs : List Sym} (hx : SymsAt w ao len xs) (hm : len ≤ maxLen) {so mo : Option Addr} {sc mc : Nat} {some' more : List Ru} (hs : ArgR w so some' sc) (hmo : ArgR w mo more mc) :
    Calls Try.prog 4 #[.slice ao len cap, .slice so some'.length sc, .slice mo more.length mc] w fun e w' => e = .returned (.bool true) ∧ Below w.heap.size w w' := by
  have hn1 := hold_eqn
  have hn2 := hold_eqf
  go_enter Try.func4, Try.ntmps4
  go_wp2_with fail
  refine (awake7_any w).mono ?_
  rintro e w1 ⟨rfl, K1⟩
  go_wp2_with fail
  refine (begun_any ao len cap xs w1 (hx.kept K1.below) hm).mono ?_
  rintro e w2 ⟨q, bs, b, m, rv, rfl, hq2, hst2, _, _, hk2, zb, zq, zm⟩
  have K2 := K1.trans' hk2
  have z1 := K1.size
  have Q2 := cellAt hq2 1
  simp only [List.getElem?_toArray, List.getElem?_cons_succ, List.getElem?_cons_zero] at Q2
  generalize madeL xs = L at *
  have s1 := hs.size
  have s2 := hmo.size
  have C3 := add_out (lc := sc) hst2 (GoodR.nil L) (base := w.heap.size) (by omega) (fun k e => by cases e) K2.size (hs.at'.same K2) (by omega) hs.cap'
  clear hk2
  go_upto_region 6 with (first | (go_at_call 9; refine C3.mono ?_; rintro e w3 ⟨v3, R3, lv3, vs3, rfl, hst3, hg3, kf3, ks3, hlv3, ha3⟩))
  have hq3 := side_kept hq2 ks3
  have K3 : Same0 w w3 := Kept.trans K2 kf3 (fun i hi e => by unfold From at e; omega)
  have Q3 := cellAt hq3 1
  simp only [List.getElem?_toArray, List.getElem?_cons_succ, List.getElem?_cons_zero] at Q3
  have C4 := add_out (lc := mc) hst3 hg3 (base := w.heap.size) (by omega) hlv3 K3.size (hmo.at'.same K3) (by omega) hmo.cap'
  clear C3 hst2 Q2 hq2 kf3 ks3 K2
  go_upto_region 7 with (first | (go_at_call 9; refine C4.mono ?_; rintro e w4 ⟨v4, R4, lv4, vs4, rfl, hst4, hg4, kf4, ks4, hlv4, ha4⟩))
  have hq4 := side_kept hq3 ks4
  have K4 : Same0 w w4 := Kept.trans K3 kf4 (fun i hi e => by unfold From at e; omega)
  clear C4 hst3 Q3 hq3 kf4 ks4 K3 hg3 hlv3 hlv4
  have b1 : (some'.length : Int) ≤ 140737488351232 := by omega
  have b2 : (more.length : Int) ≤ 140737488351232 := by omega
  obtain ⟨z3, e3, g3, L3⟩ : ∃ z3 : Bool, (∀ w : World, (binOp .eql 28 v3 .nilIface).run Try.prog w = .ok (.bool z3) w) ∧ (∀ (k : Nat) (w : World), (eqGuard .eql 28 (.tmp k) (.const .nilIface) v3 .nilIface).run Try.prog w = .ok () w) ∧ Hid (R3.length = if z3 = true then some'.length else 0) := by
    rcases ha3 with ⟨rfl, q2, _⟩ | ⟨⟨k, rfl⟩, q2, _⟩
    · exact ⟨true, hold_eqn, hold_gn, by show _ = _; rw [q2]; simp⟩
    · exact ⟨false, hold_eqf _, hold_gf _, by show _ = _; rw [q2]; simp⟩
  obtain ⟨z4, e4, g4, L4⟩ : ∃ z4 : Bool, (∀ w : World, (binOp .eql 28 v4 .nilIface).run Try.prog w = .ok (.bool z4) w) ∧ (∀ (k : Nat) (w : World), (eqGuard .eql 28 (.tmp k) (.const .nilIface) v4 .nilIface).run Try.prog w = .ok () w) ∧ Hid (R4.length = R3.length + if z4 = true then more.length else 0) := by
    rcases ha4 with ⟨rfl, q2, _⟩ | ⟨⟨k, rfl⟩, q2, _⟩
    · exact ⟨true, hold_eqn, hold_gn, by show _ = _; rw [q2]; simp⟩
    · exact ⟨false, hold_eqf _, hold_gf _, by show _ = _; rw [q2]; simp⟩
  clear ha3 ha4 hn1 hn2
  go_upto_if 47 with fail
  go_cut [11] from 48 to 51 (fun x11 wx => x11 = .int .i64 (R3.length : Int) ∧ wx = w4)
  case first =>
    cases z3
    · go_wp2
      go_meet
      case rel => exact ⟨by rw [L3.out]; rfl, rfl⟩
    · go_wp2
      go_meet
      case rel => exact ⟨by rw [L3.out]; first | rfl | simp, rfl⟩
  case rest =>
    obtain ⟨rfl, rfl⟩ := hcut
    have b3 : (R3.length : Int) ≤ 140737488351232 := by
      have := L3.out
      split at this <;> omega
    go_upto_if 53 with fail
    go_cut [11] from 54 to 57 (fun x11 wx' => x11 = .int .i64 (R4.length : Int) ∧ wx' = wc)
    case first =>
      cases z4
      · go_wp2
        go_meet
        case rel => exact ⟨by rw [L4.out]; rfl, rfl⟩
      · go_wp2
        go_meet
        case rel => exact ⟨by rw [L4.out]; first | rfl | simp, rfl⟩
    case rest =>
      obtain ⟨rfl, rfl⟩ := hcut
      have HQ : Hid (∀ ww, Same0 wc ww → ww.cell? ⟨q, 0, none⟩ = some (.pointer (some ⟨bs, 0, none⟩)) ∧ ww.cell? ⟨q, 1, none⟩ = some (.pointer (some ⟨b, 0, none⟩))) := fun ww hk => ⟨cellAt (hk.at0 hq4) 0, cellAt (hk.at0 hq4) 1⟩
      obtain ⟨_, c1⟩ := HQ.out wc (Kept.refl _ _)
      have CL := slen_any hst4
      have hle : ¬ (100 : Int) < (R4.length : Int) := by have := hg4.1; omega
      have FIN : Hid (∀ ww, Same0 wc ww → Below w.heap.size w ww) := fun ww hk => (K4.trans' hk).below
      have M0 : Same0 wc wc := Kept.refl _ _
      clear L3 L4 b1 b2 b3 e3 e4 g3 g4 hx hs hmo K4 hq4 K1
      go_wp2_with (first | (go_at_call 10; refine CL.mono ?_; rintro e wq ⟨rfl, rfl⟩))
      go_loopw [12] (fun i wr => ∃ n : Nat, n ≤ R4.length ∧ i = .int .i64 (n : Int) ∧ Same0 wq wr) (fun i _ => R4.length - (intOf i).toNat)
      case atStart => exact ⟨0, Nat.zero_le _, rfl, M0⟩
      case round =>
        clear M0 c1 CL hle
        obtain ⟨n, hn, rfl, hs⟩ := hrel
        by_cases hlt : n < R4.length
        · have F := hg4.facts hlt
          obtain ⟨x, hx⟩ : ∃ x, x = R4[n] := ⟨_, rfl⟩
          rw [← hx] at F
          have CA := sat_yes (hst4.same hs) n hlt
          rw [← hx] at CA
          obtain ⟨c0, c1⟩ := HQ.out _ hs
          have f1 : ¬ (x.1.length : Int) < 1 := by have := F.pos; omega
          have f2 : ¬ (200 : Int) < (x.1.length : Int) := by have := F.l1; omega
          have f3 : ¬ (200 : Int) < (x.2.length : Int) := by have := F.l2; omega
          clear hx
          go_upto_region 20 with (first | (go_at_call 11; refine CA.mono ?_; rintro e w6 ⟨v, rfl, ⟨g, c, g', c', rfl, t1, t2, _, _, _⟩, hk6⟩))
          have KA : Same0 wq (w6.alloc (.cells #[.slice (some ⟨g, 0, none⟩) x.1.length c, .slice (some ⟨g', 0, none⟩) x.2.length c'] 39)) := Kept.alloc (hs.trans' hk6) _
          have hnew := heap_alloc_new w6 (.cells #[.slice (some ⟨g, 0, none⟩) x.1.length c, .slice (some ⟨g', 0, none⟩) x.2.length c'] 39)
          have tI : IntsAt (w6.alloc (.cells #[.slice (some ⟨g, 0, none⟩) x.1.length c, .slice (some ⟨g', 0, none⟩) x.2.length c'] 39)) (some ⟨g, 0, none⟩) x.1 := ((t1.arg (by have := F.l1; omega)).same ((Kept.refl _ w6).alloc _)).at'
          obtain ⟨wa, hwa⟩ : ∃ wa, wa = w6.alloc (.cells #[.slice (some ⟨g, 0, none⟩) x.1.length c, .slice (some ⟨g', 0, none⟩) x.2.length c'] 39) := ⟨_, rfl⟩
          rw [← hwa] at KA hnew tI ⊢
          obtain ⟨ab, hab⟩ : ∃ ab, ab = w6.heap.size := ⟨_, rfl⟩
          rw [← hab] at hnew ⊢
          have HX : Hid (∀ k (h : k < x.1.length) ww, Same0 wa ww → ww.cell? ⟨g, k, none⟩ = some (.int .i64 x.1[k])) := fun k h ww hk => by
            obtain ⟨b', off', e, _, hc⟩ := (tI.same hk).get h
            simp only [Option.some.injEq, Addr.mk.injEq] at e
            obtain ⟨rfl, rfl, _⟩ := e
            simpa using hc
          have HV : Hid (∀ ww, Same0 wa ww → (ww.cell? ⟨q, 0, none⟩ = some (.pointer (some ⟨bs, 0, none⟩)) ∧ ww.cell? ⟨q, 1, none⟩ = some (.pointer (some ⟨b, 0, none⟩))) ∧ ww.cell? ⟨ab, 0, none⟩ = some (.slice (some ⟨g, 0, none⟩) x.1.length c) ∧ ww.cell? ⟨ab, 1, none⟩ = some (.slice (some ⟨g', 0, none⟩) x.2.length c')) := fun ww hk => ⟨HQ.out ww (KA.trans' hk), cellAt (hk.at0 hnew) 0, cellAt (hk.at0 hnew) 1⟩
          have HG : Hid (∀ ww, Same0 wa ww → Sg ww.heap.size ww bs L) := fun ww hk => ((hst4.same KA).same hk).sig
          clear hwa hab hnew t1 t2 CA c0 c1 hk6 f1 f2 f3
          have hpos := F.pos
          obtain ⟨j, hj, hjl, hjd⟩ : ∃ j : Nat, x.1[0] = (j : Int) ∧ ∃ h : j < L.length, L[j].df = true := by
            have := F.top hpos
            unfold defB at this
            split at this
            · cases this
            · rename_i h0
              refine ⟨x.1[0].toNat, by omega, ?_⟩
              split at this
              · rename_i y hy
                obtain ⟨h1, h2⟩ := List.getElem?_eq_some_iff.1 hy
                exact ⟨h1, by rw [h2]; exact this⟩
              · cases this
          have CS : Hid (∀ ww, Same0 wa ww → Calls Try.prog 12 #[.pointer (some ⟨bs, 0, none⟩), .int .i64 (j : Int)] ww fun e w' => e = .returned (.tuple #[.agg #[.string L[j].name, .int .i64 L[j].ar, .bool true], .int .i64 0]) ∧ Same0 ww w' ∧ Same0 wa w') := fun ww hk => by
            have := sg_at_yes (HG.out ww hk) hjl
            rw [hjd] at this
            exact this.mono (fun e w' ⟨q1, q2⟩ => ⟨q1, q2, hk.trans' q2⟩)
          have HS : Hid (∀ ww, Same0 wa ww → ww.cell? ⟨g, 0, none⟩ = some (.int .i64 (j : Int)) ∧ ww.cell? ⟨q, 0, none⟩ = some (.pointer (some ⟨bs, 0, none⟩)) ∧ ww.cell? ⟨ab, 0, none⟩ = some (.slice (some ⟨g, 0, none⟩) x.1.length c)) := fun ww hk => ⟨by rw [HX.out 0 hpos ww hk, hj], (HV.out ww hk).1.1, (HV.out ww hk).2.1⟩
          have HZ : Hid (∀ (ww : World) (yb : Nat), ww.heap[yb]? = some (.cells #[.string ⟨#[]⟩, .int .i64 0, .bool false] 44 (0, 0)) → (ww.cell? ⟨yb, 0, none⟩ = some (.string ⟨#[]⟩) ∧ ww.cell? ⟨yb, 1, none⟩ = some (.int .i64 0) ∧ ww.cell? ⟨yb, 2, none⟩ = some (.bool false)) ∧ ww.frozen? ⟨yb, 0, none⟩ = false ∧ ww.frozen? ⟨yb, 1, none⟩ = false ∧ ww.frozen? ⟨yb, 2, none⟩ = false) := fun ww yb h => ⟨⟨cellAt h 0, cellAt h 1, cellAt h 2⟩, frozenAt h 0, frozenAt h 1, frozenAt h 2⟩
          have HE : Hid (∀ ww (A B C : Value), Same0 wa ww → Same0 wa (((ww.setCell ⟨wa.heap.size, 0, none⟩ A).setCell ⟨wa.heap.size, 1, none⟩ B).setCell ⟨wa.heap.size, 2, none⟩ C)) := fun ww A B C hk => ((hk.setCell (fun h => absurd h (by simp)) _).setCell (fun h => absurd h (by simp)) _).setCell (fun h => absurd h (by simp)) _
          have CC0 := HS.out wa (Kept.refl _ _)
          have W1 : Same0 wa wa.drew := Kept.drew (Kept.refl _ _)
          have i1 : (0 : Int) < (x.1.length : Int) := by omega
          go_cut [15, 16] (fun x15 x16 wx => ∃ yb, x15 = .pointer (some ⟨yb, 0, none⟩) ∧ x16 = .int .i64 0 ∧ wx.heap[yb]? = some (.cells #[.string L[j].name, .int .i64 L[j].ar, .bool true] 44 (0, 0)) ∧ Same0 wa wx)
          case first =>
            go_region_held3 (fun w' => w'.cell? ⟨g, 0, none⟩ = some (.int .i64 (j : Int)) ∧ w'.cell? ⟨q, 0, none⟩ = some (.pointer (some ⟨bs, 0, none⟩)) ∧ w'.cell? ⟨ab, 0, none⟩ = some (.slice (some ⟨g, 0, none⟩) x.1.length c)) (first | exact CC0 | exact cc1 | exact HS.out _ (Kept.alloc W1 _) | exact HS.out _ (Kept.alloc hw7 _) | exact HS.out _ (HE.out _ _ _ _ hw7)) (first | (go_at_call 12; refine (CS.out _ (by first | exact W1 | exact Kept.alloc W1 _)).mono ?_; rintro e w7 ⟨rfl, hk7, hw7⟩; have cc1 := HS.out _ hw7; try (have z7 := hk7.at0 (heap_alloc_new _ _); obtain ⟨⟨y0, y1, y2⟩, yf0, yf1, yf2⟩ := HZ.out _ _ z7)))
            all_goals
              go_wp2_with fail
              go_meet
              case rel => first | exact ⟨_, rfl, rfl, heap_alloc_new w7 _, Kept.alloc hw7 _⟩ | exact ⟨_, rfl, rfl, setAt (setAt (setAt z7 0 _) 1 _) 2 _, HE.out _ _ _ _ hw7⟩
          case rest =>
            obtain ⟨yb, rfl, rfl, hyb, ky⟩ := hcut
            have hy2 := cellAt hyb 2
            simp only [List.getElem?_toArray, List.getElem?_cons_succ, List.getElem?_cons_zero] at hy2
            clear hyb CC0 HS CS W1
            rename World => wy
            have M1 : Same0 wy wy := Kept.refl _ _
            go_wp2
            go_loopw [17] (fun i wr => ∃ k : Nat, 1 ≤ k ∧ k ≤ x.1.length ∧ i = .int .i64 (k : Int) ∧ Same0 wa wr) (fun i _ => x.1.length - (intOf i).toNat)
            case atStart => exact ⟨1, by omega, by omega, rfl, ky⟩
            case round =>
              clear M1
              obtain ⟨k, hk1, hk2, rfl, ks⟩ := hrel
              obtain ⟨⟨c0, c1⟩, d0, d1⟩ := HV.out _ ks
              by_cases hkl : k < x.1.length
              · have e0 := HX.out k hkl _ ks
                have j1 : (0 : Int) ≤ (k : Int) := by omega
                have j2 : (k : Int) < (x.1.length : Int) := by omega
                by_cases hneg : x.1[k] < 0
                · go_wp2
                  go_roundw
                  case rel => first | exact ⟨k + 1, by omega, by omega, by go_num, ks⟩ | ((repeat apply Exists.intro); exact ⟨⟨k + 1, by omega, by omega, by go_num, ks⟩, rfl⟩)
                  case measure => simp [intOf]; omega
                · obtain ⟨j', hj', hjl', hjd'⟩ : ∃ j : Nat, x.1[k] = (j : Int) ∧ ∃ h : j < L.length, L[j].df = false := by
                    have h1 := F.low k hkl (by omega)
                    have h2 := (badE_zero.1 (checkE_zero.1 F.ok.1).2.1 _ (List.getElem_mem hkl)).1
                    refine ⟨x.1[k].toNat, by omega, by omega, ?_⟩
                    have h3 : x.1[k] = ((x.1[k].toNat : Nat) : Int) := by omega
                    rw [h3, defB_at (by omega)] at h1
                    exact h1
                  have nj : ¬ (j' : Int) < 0 := by omega
                  rw [hj'] at e0
                  have CS : Hid (∀ ww, Same0 wr ww → Calls Try.prog 12 #[.pointer (some ⟨bs, 0, none⟩), .int .i64 (j' : Int)] ww fun e w' => e = .returned (.tuple #[.agg #[.string L[j'].name, .int .i64 L[j'].ar, .bool false], .int .i64 0]) ∧ Same0 ww w' ∧ Same0 wr w') := fun ww hk => by
                    have := sg_at_yes (HG.out ww (ks.trans' hk)) hjl'
                    rw [hjd'] at this
                    exact this.mono (fun e w' ⟨q1, q2⟩ => ⟨q1, q2, hk.trans' q2⟩)
                  have HS : Hid (∀ ww, Same0 wr ww → ww.cell? ⟨g, k, none⟩ = some (.int .i64 (j' : Int)) ∧ ww.cell? ⟨q, 0, none⟩ = some (.pointer (some ⟨bs, 0, none⟩)) ∧ ww.cell? ⟨ab, 0, none⟩ = some (.slice (some ⟨g, 0, none⟩) x.1.length c)) := fun ww hk => ⟨by rw [HX.out k hkl ww (ks.trans' hk), hj'], (HV.out ww (ks.trans' hk)).1.1, (HV.out ww (ks.trans' hk)).2.1⟩
                  have HE : Hid (∀ ww (A B C : Value), Same0 wr ww → Same0 wr (((ww.setCell ⟨wr.heap.size, 0, none⟩ A).setCell ⟨wr.heap.size, 1, none⟩ B).setCell ⟨wr.heap.size, 2, none⟩ C)) := fun ww A B C hk => ((hk.setCell (fun h => absurd h (by simp)) _).setCell (fun h => absurd h (by simp)) _).setCell (fun h => absurd h (by simp)) _
                  have CC0 := HS.out wr (Kept.refl _ _)
                  have W1 : Same0 wr wr.drew := Kept.drew (Kept.refl _ _)
                  obtain ⟨wz, hwz⟩ : ∃ wz, wz = wr := ⟨_, rfl⟩
                  rw [← hwz] at CS HS HE CC0 W1 c0 c1 d0 d1 e0 ks ⊢
                  clear hwz hneg
                  go_upto_region 27 with fail
                  go_cut [18, 19] (fun x18 x19 wx => ∃ yb, x18 = .pointer (some ⟨yb, 0, none⟩) ∧ x19 = .int .i64 0 ∧ wx.heap[yb]? = some (.cells #[.string L[j'].name, .int .i64 L[j'].ar, .bool false] 44 (0, 0)) ∧ Same0 wz wx)
                  case first =>
                    go_region_held3 (fun w' => w'.cell? ⟨g, k, none⟩ = some (.int .i64 (j' : Int)) ∧ w'.cell? ⟨q, 0, none⟩ = some (.pointer (some ⟨bs, 0, none⟩)) ∧ w'.cell? ⟨ab, 0, none⟩ = some (.slice (some ⟨g, 0, none⟩) x.1.length c)) (first | exact CC0 | exact cc1 | exact HS.out _ (Kept.alloc W1 _) | exact HS.out _ (Kept.alloc hw7 _) | exact HS.out _ (HE.out _ _ _ _ hw7)) (first | (go_at_call 12; refine (CS.out _ (by first | exact W1 | exact Kept.alloc W1 _)).mono ?_; rintro e w7 ⟨rfl, hk7, hw7⟩; have cc1 := HS.out _ hw7; try (have z7 := hk7.at0 (heap_alloc_new _ _); obtain ⟨⟨y0, y1, y2⟩, yf0, yf1, yf2⟩ := HZ.out _ _ z7)))
                    all_goals
                      go_wp2_with fail
                      go_meet
                      case rel => first | exact ⟨_, rfl, rfl, heap_alloc_new w7 _, Kept.alloc hw7 _⟩ | exact ⟨_, rfl, rfl, setAt (setAt (setAt z7 0 _) 1 _) 2 _, HE.out _ _ _ _ hw7⟩
                  case rest =>
                    obtain ⟨yb', rfl, rfl, hyb', kz⟩ := hcut
                    have hz2 := cellAt hyb' 2
                    simp only [List.getElem?_toArray, List.getElem?_cons_succ, List.getElem?_cons_zero] at hz2
                    clear hyb' CC0 HS CS W1 HE
                    go_wp2
                    go_roundw
                    case rel => first | exact ⟨k + 1, by omega, by omega, by go_num, ks.trans' kz⟩ | ((repeat apply Exists.intro); exact ⟨⟨k + 1, by omega, by omega, by go_num, ks.trans' kz⟩, rfl⟩)
                    case measure => simp [intOf]; omega
              · have ck := KA.trans' ks
                clear hy2 hk1 hk2
                have hkl' : ¬ (k : Int) < (x.1.length : Int) := by omega
                clear hkl
                go_wp2
                go_loopw [20] (fun i wr => ∃ k : Nat, k ≤ n ∧ i = .int .i64 (k : Int) ∧ Same0 wa wr) (fun i _ => n - (intOf i).toNat)
                case atStart => exact ⟨0, Nat.zero_le _, rfl, ks⟩
                case round =>
                  clear c0 c1 d0 d1 ks ck
                  obtain ⟨k', hk', rfl, ks⟩ := hrel
                  obtain ⟨⟨c0, c1⟩, d0, d1⟩ := HV.out _ ks
                  by_cases hkn : k' < n
                  · have hk4 : k' < R4.length := by omega
                    obtain ⟨y, hy⟩ : ∃ y, y = R4[k'] := ⟨_, rfl⟩
                    have CA := sat_yes (hst4.same (KA.trans' ks)) k' hk4
                    have FA := F.apart k' hkn hk4
                    have yl := (hg4.facts hk4).l1
                    rw [← hy] at CA FA yl
                    have xl := F.l1
                    clear hy
                    go_upto_region 34 with (first | (go_at_call 11; refine CA.mono ?_; rintro e w8 ⟨v8, rfl, ⟨g2, c2, g2', c2', rfl, t1, t2, _, _, _⟩, hk8⟩))
                    have KB : Same0 wa (w8.alloc (.cells #[.slice (some ⟨g2, 0, none⟩) y.1.length c2, .slice (some ⟨g2', 0, none⟩) y.2.length c2'] 39)) := Kept.alloc (ks.trans' hk8) _
                    have hnew := heap_alloc_new w8 (.cells #[.slice (some ⟨g2, 0, none⟩) y.1.length c2, .slice (some ⟨g2', 0, none⟩) y.2.length c2'] 39)
                    have tJ : IntsAt (w8.alloc (.cells #[.slice (some ⟨g2, 0, none⟩) y.1.length c2, .slice (some ⟨g2', 0, none⟩) y.2.length c2'] 39)) (some ⟨g2, 0, none⟩) y.1 := ((t1.arg (by omega)).same ((Kept.refl _ w8).alloc _)).at'
                    obtain ⟨wd, hwd⟩ : ∃ wd, wd = w8.alloc (.cells #[.slice (some ⟨g2, 0, none⟩) y.1.length c2, .slice (some ⟨g2', 0, none⟩) y.2.length c2'] 39) := ⟨_, rfl⟩
                    rw [← hwd] at KB hnew tJ ⊢
                    obtain ⟨bb, hbb⟩ : ∃ bb, bb = w8.heap.size := ⟨_, rfl⟩
                    rw [← hbb] at hnew ⊢
                    have HS : Hid (∀ ww, Same0 wd ww → ww.cell? ⟨q, 0, none⟩ = some (.pointer (some ⟨bs, 0, none⟩)) ∧ ww.cell? ⟨ab, 0, none⟩ = some (.slice (some ⟨g, 0, none⟩) x.1.length c) ∧ ww.cell? ⟨bb, 0, none⟩ = some (.slice (some ⟨g2, 0, none⟩) y.1.length c2)) := fun ww hk => ⟨(HV.out ww (KB.trans' hk)).1.1, (HV.out ww (KB.trans' hk)).2.1, cellAt (hk.at0 hnew) 0⟩
                    have CL : Hid (∀ ww, Same0 wd ww → Calls Try.prog 13 #[.pointer (some ⟨bs, 0, none⟩), .slice (some ⟨g, 0, none⟩) x.1.length c, .slice (some ⟨g2, 0, none⟩) y.1.length c2] ww fun e w' => e = .returned (.tuple #[.bool true, .int .i64 0]) ∧ Same0 wd w') := fun ww hk => by
                      have := clash_any (xc := c) (yc := c2) (HG.out ww (KB.trans' hk)) ((tI.same KB).same hk) (tJ.same hk) (by unfold maxLen; omega) (by unfold maxLen; omega)
                      rw [FA.1, FA.2] at this
                      exact this.mono (fun e w' ⟨q1, q2⟩ => ⟨q1, hk.trans' q2⟩)
                    have CC0 := HS.out wd (Kept.refl _ _)
                    have W1 : Same0 wd wd.drew := Kept.drew (Kept.refl _ _)
                    clear hwd hbb hnew tJ t1 t2 CA c0 c1 d0 d1 hk8
                    go_region_held3 (fun w' => w'.cell? ⟨q, 0, none⟩ = some (.pointer (some ⟨bs, 0, none⟩)) ∧ w'.cell? ⟨ab, 0, none⟩ = some (.slice (some ⟨g, 0, none⟩) x.1.length c) ∧ w'.cell? ⟨bb, 0, none⟩ = some (.slice (some ⟨g2, 0, none⟩) y.1.length c2)) (first | exact cc1 | exact CC0) (first | (go_at_call 13; refine (CL.out _ W1).mono ?_; rintro e w9 ⟨rfl, hw9⟩; have cc1 := HS.out _ hw9))
                    all_goals
                      go_wp2
                      go_roundw
                      case rel => first | exact ⟨k' + 1, by omega, by go_num, KB.trans' hw9⟩ | ((repeat apply Exists.intro); exact ⟨⟨k' + 1, by omega, by go_num, KB.trans' hw9⟩, rfl⟩)
                      case measure => simp [intOf]; omega
                  · go_wp2
                    go_roundw
                    case rel => first | exact ⟨n + 1, by omega, by go_num, KA.trans' ks⟩ | ((repeat apply Exists.intro); exact ⟨⟨n + 1, by omega, by go_num, KA.trans' ks⟩, rfl⟩)
                    case measure => simp [intOf]; omega
        · go_wp2
          go_ret
          exact ⟨rfl, FIN.out _ hs⟩
end Go.Proofs.Ytppdopccipngpaa
