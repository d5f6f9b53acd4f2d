import Derived.Test.YtppdopccipngpaaGRule13
import Derived.SizedLaws
import Derived.Deep.DeepCutAuto
/- The walks of At, and of the laws' begun. -/
namespace Go.Proofs.Ytppdopccipngpaa
set_option maxRecDepth 100000
set_option linter.unusedVariables false
open Go.RowKit
attribute [local go_sem ↓] Go.wp_at_zero Go.wp_at_succ
set_option maxHeartbeats 2000000 in
theorem sat_no {w : World} {b bs : Nat} {L : List Sym} {R : List Ru} {lv : Value} {vs : List Value} (h : StAt w b bs L R lv vs) (n : Int) (hn : n < 0 ∨ (R.length : Int) ≤ n) :
    Calls Try.prog 11 #[.pointer (some ⟨b, 0, none⟩), .int .i64 n] w fun e w' => e = .returned (.tuple #[.agg #[.slice none 0 0, .slice none 0 0], .int .i64 79]) ∧ Same0 w w' := by
  have K : ∀ o, Same0 w (w.alloc o) := fun o => (Kept.refl _ w).alloc o
  obtain ⟨ro, rc, rfl, hR⟩ := h.read
  have C := fun o => (hR.same (K o)).cells.2
  clear h hR
  rcases hn with hn | hn
  · go_enter Try.func11, Try.ntmps11
    go_wp2
    exact bodyPost_ret (v := .tuple #[.agg #[.slice none 0 0, .slice none 0 0], .int .i64 79]) (by simp [results, Try.results11, go_sem]) rfl ⟨rfl, K _⟩
  · have hn' : ¬ n < 0 := by omega
    go_enter Try.func11, Try.ntmps11
    go_wp2
    exact bodyPost_ret (v := .tuple #[.agg #[.slice none 0 0, .slice none 0 0], .int .i64 79]) (by simp [results, Try.results11, go_sem]) rfl ⟨rfl, K _⟩
/-- A rule that is given out: each side in new memory. -/
def RuOut (base : Nat) (w : World) (v : Value) (x : Ru) : Prop := ∃ g c g' c', v = .agg #[.slice (some ⟨g, 0, none⟩) x.1.length c, .slice (some ⟨g', 0, none⟩) x.2.length c'] ∧ TmAt w g c x.1 ∧ TmAt w g' c' x.2 ∧ base ≤ g ∧ base ≤ g' ∧ g ≠ g'
set_option maxHeartbeats 2000000 in
theorem sat_yes {w : World} {b bs : Nat} {L : List Sym} {R : List Ru} {lv : Value} {vs : List Value} (h : StAt w b bs L R lv vs) (i : Nat) (hi : i < R.length) :
    Calls Try.prog 11 #[.pointer (some ⟨b, 0, none⟩), .int .i64 (i : Int)] w fun e w' => ∃ v, e = .returned (.tuple #[v, .int .i64 0]) ∧ RuOut w.heap.size w' v R[i] ∧ Same0 w w' := by
  have K : Same0 w (w.alloc (.cells #[.slice none 0 0, .slice none 0 0] 39)) := (Kept.refl _ w).alloc _
  have hz := ok_len (h.ok _ (List.getElem_mem hi))
  have hle := h.le
  obtain ⟨ro, rc, rfl, hR⟩ := h.read
  have hR1 := hR.same K
  have C := hR1.cells.2
  obtain ⟨gb, goff, rfl, hgb, ao, ac, bo, bc, r0, r1, A1, A2⟩ := hR1.rs.get hi
  have CC := copied_any (ac := ac) (bc := bc) (x := R[i]) A1.at' A2.at' hz.1.1 hz.2.1 hz.1.2 hz.2.2
  have G0 := heap_alloc_new w (.cells #[.slice none 0 0, .slice none 0 0] 39)
  have HF : Hid (∀ ww, Same0 (w.alloc (.cells #[.slice none 0 0, .slice none 0 0] 39)) ww → (ww.cell? ⟨w.heap.size, 0, none⟩ = some (.slice none 0 0) ∧ ww.cell? ⟨w.heap.size, 1, none⟩ = some (.slice none 0 0)) ∧ ww.frozen? ⟨w.heap.size, 0, none⟩ = false ∧ ww.frozen? ⟨w.heap.size, 1, none⟩ = false) := fun ww hk => ⟨⟨cellAt (hk.at0 G0) 0, cellAt (hk.at0 G0) 1⟩, frozenAt (hk.at0 G0) 0, frozenAt (hk.at0 G0) 1⟩
  have HR : Hid (∀ ww (A B : Value), Same0 (w.alloc (.cells #[.slice none 0 0, .slice none 0 0] 39)) ww → ((ww.setCell ⟨w.heap.size, 0, none⟩ A).setCell ⟨w.heap.size, 1, none⟩ B).cell? ⟨w.heap.size, 0, none⟩ = some A ∧ ((ww.setCell ⟨w.heap.size, 0, none⟩ A).setCell ⟨w.heap.size, 1, none⟩ B).cell? ⟨w.heap.size, 1, none⟩ = some B) := fun ww A B hk => by
    have b := setAt (setAt (hk.at0 G0) 0 A) 1 B
    exact ⟨cellAt b 0, cellAt b 1⟩
  have HE : Hid (∀ ww (A B : Value), Same0 (w.alloc (.cells #[.slice none 0 0, .slice none 0 0] 39)) ww → Same0 w ((ww.setCell ⟨w.heap.size, 0, none⟩ A).setCell ⟨w.heap.size, 1, none⟩ B)) := fun ww A B hk => ((K.trans' hk).setCell (fun h => absurd h (by simp)) _).setCell (fun h => absurd h (by simp)) _
  have HT : Hid (∀ ww g c xs (A B : Value), TmAt ww g c xs → w.heap.size + 1 ≤ g → TmAt ((ww.setCell ⟨w.heap.size, 0, none⟩ A).setCell ⟨w.heap.size, 1, none⟩ B) g c xs) := fun ww g c xs A B ht hg => by
    have k : Kept (fun k => k = w.heap.size) ww ((ww.setCell ⟨w.heap.size, 0, none⟩ A).setCell ⟨w.heap.size, 1, none⟩ B) := Kept.setCell (p := ⟨w.heap.size, 1, none⟩) (Kept.setCell (p := ⟨w.heap.size, 0, none⟩) (Kept.refl (fun k => k = w.heap.size) ww) (fun _ => rfl) A) (fun _ => rfl) B
    exact k.row ht (fun i e => by simp [Value.ownBlock] at e; omega)
  have i1 : (0 : Int) ≤ (i : Int) := by omega
  have i2 : (i : Int) < (R.length : Int) := by omega
  clear h hR hR1 K A1 A2 hz G0
  simp only [World.size_alloc] at CC
  go_enter Try.func11, Try.ntmps11
  go_wp2_with (first | (go_at_call 24; refine CC.mono ?_; rintro e w2 ⟨g, c, g', c', rfl, t1, t2, q1, q2, q3, hk2⟩; obtain ⟨⟨c1, c2⟩, f1, f2⟩ := HF.out _ hk2))
  exact bodyPost_ret (v := .tuple #[.agg #[.slice (some ⟨g, 0, none⟩) R[i].1.length c, .slice (some ⟨g', 0, none⟩) R[i].2.length c'], .int .i64 0]) (by obtain ⟨r0, r1⟩ := HR.out w2 (.slice (some ⟨g, 0, none⟩) R[i].1.length c) (.slice (some ⟨g', 0, none⟩) R[i].2.length c') hk2; simp [results, Try.results11, go_sem, r0, r1]) rfl ⟨_, rfl, ⟨g, c, g', c', rfl, HT.out _ _ _ _ _ _ t1 q1, HT.out _ _ _ _ _ _ t2 q2, by omega, by omega, q3⟩, HE.out _ _ _ hk2⟩
/-- What begun gives: the program's store and the document's, over the same symbols. -/
def BegPost (L : List Sym) (w : World) (e : Ending) (w' : World) : Prop :=
  ∃ q bs b m rv, e = .returned (.pointer (some ⟨q, 0, none⟩)) ∧ w'.heap[q]? = some (.cells #[.pointer (some ⟨bs, 0, none⟩), .pointer (some ⟨b, 0, none⟩), .pointer (some ⟨m, 0, none⟩)] 33 (0, 0)) ∧ StAt w' b bs L [] (.slice none 0 0) [] ∧ w'.heap[m]? = some (.cells #[rv, .slice none 0 0] 67 (0, 0)) ∧ Rl w'.heap.size w' rv L ∧ Same0 w w' ∧ w.heap.size ≤ b ∧ w.heap.size ≤ q ∧ w.heap.size ≤ m
set_option maxHeartbeats 2000000 in
theorem begun_any (ao : Option Addr) (len cap : Nat) (xs : List Sym) (w : World) (hx : SymsAt w ao len xs) (hm : len ≤ maxLen) :
    Calls Try.prog 8 #[.slice ao len cap] w (BegPost (madeL xs) w) := by
  have CM := made_any ao len cap xs w hx hm
  clear hx hm
  go_enter Try.func8, Try.ntmps8
  go_wp2_with (first | (go_at_call 21; refine CM.mono ?_; rintro e w1 ⟨bs, rv, rfl, hsg, hrl, hk1⟩; obtain ⟨ro, rc, rfl⟩ := row_shape hrl.1; have CN := snew_any hsg) | (go_at_call 20; refine CN.mono ?_; rintro e w2 ⟨rfl, hst, hk2⟩))
  go_ret
  have K3 : Same0 w2 (w2.alloc (.cells #[.slice ro (madeL xs).length rc, .slice none 0 0] 67)) := (Kept.refl _ _).alloc _
  have K4 : Same0 (w2.alloc (.cells #[.slice ro (madeL xs).length rc, .slice none 0 0] 67)) ((w2.alloc (.cells #[.slice ro (madeL xs).length rc, .slice none 0 0] 67)).alloc (.cells #[.pointer (some ⟨bs, 0, none⟩), .pointer (some ⟨w1.heap.size, 0, none⟩), .pointer (some ⟨w2.heap.size, 0, none⟩)] 33)) := (Kept.refl _ _).alloc _
  have z1 := hk1.size
  have z2 := hk2.size
  refine ⟨_, bs, w1.heap.size, w2.heap.size, .slice ro (madeL xs).length rc, rfl, heap_al_al _ _ _, (hst.same K3).same K4, K4.at0 (heap_alloc_new _ _), ?_, ((hk1.trans' hk2).trans' K3).trans' K4, by omega, by omega, by omega⟩
  have hr := ((hrl.same hk2).same K3).same K4
  exact ⟨hr.1, fun k e => (hr.1.lt k e).2, hr.2.2⟩
end Go.Proofs.Ytppdopccipngpaa
/- Rules that were taken, in plain words; the argument of layer 7's statements, opened. -/
namespace Go.Proofs.Ytppdopccipngpaa
set_option linter.unusedVariables false
set_option maxRecDepth 100000
open Go.RowKit Go.Deep
/-- Rules that were taken. -/
def GoodR (L : List Sym) (R : List Ru) : Prop := R.length ≤ 100 ∧ ∀ i (h : i < R.length) (j : Nat), j + 1 < 8 → askB L 0 (R.take i) R[i] (j + 1) = true
theorem GoodR.nil (L : List Sym) : GoodR L [] := ⟨by simp, fun i h => absurd h (by simp)⟩
theorem ask_any (L : List Sym) (N M : Nat) (A : List Ru) (x : Ru) (j : Nat) : askB L N A x (j + 1) = askB L M A x (j + 1) := by
  match j with
  | 0 => rfl
  | 1 => rfl
  | 2 => rfl
  | 3 => rfl
  | 4 => rfl
  | 5 => rfl
  | j + 6 => rfl
theorem GoodR.add {L : List Sym} {R l : List Ru} (h : GoodR L R) (ha : Ans L R l []) : GoodR L (R ++ l) := by
  refine ⟨by simpa using (ha.fit h.1).1, fun i hi j hj => ?_⟩
  by_cases hl : i < R.length
  · rw [List.getElem_append_left hl, List.take_append_of_le_length (by omega)]
    exact h.2 i hl j hj
  · have hm : i - R.length < l.length := by simp at hi; omega
    have := ha.nil (j + 1) hj (i - R.length) hm
    rw [List.getElem_append_right (by omega), List.take_append, List.take_of_length_le (by omega)]
    unfold ckB at this
    rw [ask_any L _ 0] at this
    simpa [List.getD, hm] using this
structure RFacts (L : List Sym) (R : List Ru) (i : Nat) (x : Ru) : Prop where
  ok : checkE L x.1 = 0 ∧ checkE L x.2 = 0
  l1 : x.1.length ≤ 200
  l2 : x.2.length ≤ 200
  pos : 0 < x.1.length
  top : ∀ h : 0 < x.1.length, defB L x.1[0] = true
  low : ∀ k (h : k < x.1.length), 0 < k → defB L x.1[k] = false
  apart : ∀ k (hk : k < i) (h : k < R.length), claB L x.1 R[k].1 = true ∧ claE L x.1 R[k].1 = 0
theorem GoodR.facts {L : List Sym} {R : List Ru} (h : GoodR L R) {i : Nat} (hi : i < R.length) : RFacts L R i R[i] := by
  have ok : ∀ k (hk : k < R.length), checkE L R[k].1 = 0 ∧ checkE L R[k].2 = 0 := fun k hk => by
    have := h.2 k hk 0 (by omega)
    simpa [askB] using this
  have o := ok i hi
  have s := h.2 i hi 1 (by omega)
  have t := h.2 i hi 2 (by omega)
  have b := h.2 i hi 4 (by omega)
  have v := h.2 i hi 6 (by omega)
  have hp := (ok_len o).1.1
  simp only [askB, Bool.and_eq_true, decide_eq_true_eq] at s t b v
  refine ⟨o, s.1, s.2, hp, fun hp' => ?_, fun k hk h0 => ?_, fun k hk hk' => ?_⟩
  · have e1 : R[i].1.headD (-1) = R[i].1[0] := by
      generalize R[i].1 = y at *
      cases y with
      | nil => simp at hp
      | cons y r => simp
    rw [← e1]; exact t
  · have := List.all_eq_true.1 b R[i].1[k] (by
      rw [List.mem_iff_getElem]
      exact ⟨k - 1, by simp; omega, by simp; congr 1; omega⟩)
    simpa using this
  · have := List.all_eq_true.1 v R[k] (by
      rw [List.mem_iff_getElem]
      exact ⟨k, by simp; omega, by simp⟩)
    have ok' := ok k hk'
    rw [meetB_eq ok'.1 o.1] at this
    exact ⟨by simpa using this, by simp [claE, o.1, ok'.1]⟩
theorem bytes_rule : Try.prog.bytesOf 39 = 48 := by kernel_rfl
theorem cells_rule : Try.prog.cellsOf 39 = 2 := by kernel_rfl
theorem cells_rules : Try.prog.cellsOf 24 = 1 := by kernel_rfl
/-- Rules that came in. -/
structure ArgR (w : World) (lo : Option Addr) (l : List Ru) (cap : Nat) : Prop where
  at' : RsAt w lo l
  cap' : l.length ≤ cap
  size : l.length * 48 ≤ 140737488351232
section
variable {H : Type} {enc : TypeId × Value → H} {w : World} {spare : Nat → Bool} {held : Bool}
theorem weightsAll_mem7 {P : Program} {e : TypeId} {l : List (DataW H)} {d : DataW H} (h : d ∈ l) {n : Nat} (hn : n ∈ d.weights P e) : n ∈ DataW.weightsAll P e l := by
  induction l with
  | nil => cases h
  | cons x r ih =>
    simp only [DataW.weightsAll, List.mem_append]
    rcases List.mem_cons.1 h with q | q
    · subst q; exact .inl hn
    · exact .inr (ih q)
/-- The elements of a slice, their weights among its own. -/
theorem open_elems7 {t e c fuel : Nat} {ao : Option Addr} {len cap : Nat} {x : DataW H × List MemPlace} (ht : Try.prog.underlying t = some (.slice e)) (hc : Try.prog.cellsOf e = c) (h0 : 0 < c) (h : DataW.trod enc Try.prog w 0 spare held fuel t [.slice ao len cap] = some x) (hw : ∀ n ∈ x.1.weights Try.prog t, n ≤ reachBytes) :
    (ao = none ∧ len = 0 ∧ cap = 0) ∨ ∃ a, ao = some a ∧ len ≤ cap ∧ cap ≤ maxLen ∧ len * Try.prog.bytesOf e ≤ reachBytes ∧ ∀ i, i < len → a = ⟨a.block, a.off, none⟩ ∧ a.block < w.heap.size ∧ ∃ cs n y, cs.length = c ∧ (∀ j, j < c → w.cell? ⟨a.block, a.off + i * c + j, none⟩ = cs[j]?) ∧ DataW.trod enc Try.prog w 0 spare held n e cs = some y ∧ ∀ n ∈ y.1.weights Try.prog e, n ≤ reachBytes := by
  rcases open_slice ht h with ⟨hcs, _⟩ | ⟨a, len', cap', m, n, D, Pl, hcs, _, hl, hm, hmm, rfl, hx⟩
  · simp at hcs; exact .inl ⟨hcs.1, hcs.2.1, hcs.2.2⟩
  · simp at hcs
    obtain ⟨rfl, rfl, rfl⟩ := hcs
    have hb : len * Try.prog.bytesOf e ≤ reachBytes := by
      have := hw ((((List.range len).map D).length + ((List.range (m - len)).map fun j => D (len + j)).length) * Try.prog.bytesOf e) (by simp [DataW.weights, ht])
      refine Nat.le_trans (Nat.mul_le_mul_right _ ?_) this
      simp
    refine .inr ⟨a, rfl, hl, hm, hb, fun i hi => ?_⟩
    have hmi : i < m := by rw [hmm]; split <;> omega
    have hm0 : 0 < m := by omega
    obtain ⟨cs0, g0, _⟩ := hx 0 hm0
    rw [hc] at g0
    obtain ⟨_, gl, gc⟩ := World.cells?_some g0
    have hsp : a.spot = none := by
      have := gc 0 h0
      have hv : cs0[0]? = some (cs0[0]'(by omega)) := List.getElem?_eq_getElem (by omega)
      rw [hv] at this
      simp [Addr.add] at this
      exact World.cell?_spot this
    have hlt : a.block < w.heap.size := World.cells?_block (by simpa [Addr.add] using g0) h0
    have ea : a = ⟨a.block, a.off, none⟩ := by cases a; simp_all
    obtain ⟨cs, g1, g2⟩ := hx i hmi
    rw [hc] at g1
    obtain ⟨_, gl1, gc1⟩ := World.cells?_some g1
    refine ⟨ea, hlt, cs, n, _, gl1, fun j hj => ?_, g2, fun k hk => hw k ?_⟩
    · rw [← gc1 j hj, add_add]
      congr 1
      unfold Addr.add
      split
      · rw [ea]; simp; omega
      · simp
    · simp only [DataW.weights, ht, List.mem_cons, List.mem_append]
      exact .inr (.inl (weightsAll_mem7 (List.mem_map.2 ⟨i, by simpa using hi, rfl⟩) hk))
theorem trod_pair7 {P : Program} {base : Nat} {t : TypeId} {f0 f1 : Field} {fuel : Nat} {cs : List Value} {x : DataW H × List MemPlace} (ht : P.underlying t = some (.struct #[f0, f1])) (h : DataW.trod enc P w base spare held fuel t cs = some x) :
    ∃ y0 y1 n, x.1 = .agg [y0.1, y1.1] ∧ cs.length = P.cellsOf t ∧ DataW.trod enc P w base spare held n f0.type ((cs.drop f0.offset).take (P.cellsOf f0.type)) = some y0 ∧ DataW.trod enc P w base spare held n f1.type ((cs.drop f1.offset).take (P.cellsOf f1.type)) = some y1 := by
  obtain ⟨xs, n, _, rfl, hl, hlen, hf⟩ := DataW.trod_struct ht h
  match xs, hlen with
  | [y0, y1], _ => exact ⟨y0, y1, n, by simp, hl, by simpa using hf 0 f0 rfl, by simpa using hf 1 f1 rfl⟩
theorem open_rules {fuel : Nat} {ao : Option Addr} {len cap : Nat} {x : DataW H × List MemPlace} (h : DataW.trod enc Try.prog w 0 spare held fuel 24 [.slice ao len cap] = some x) (hw : ∀ n ∈ x.1.weights Try.prog 24, n ≤ reachBytes) :
    ∃ l, l.length = len ∧ ArgR w ao l cap := by
  rcases open_elems7 Try.underlying24 cells_rule (by omega) h hw with ⟨rfl, rfl, rfl⟩ | ⟨a, rfl, hl1, hl2, hsz, hall⟩
  · exact ⟨[], rfl, .inl rfl, Nat.le_refl _, by simp⟩
  · rw [bytes_rule] at hsz
    have each : ∀ i, i < len → ∃ x : Ru, RuAt w a.block (a.off + i * 2) x := by
      intro i hi
      obtain ⟨_, _, cs, n, y, hl, hcell, hy, hyw⟩ := hall i hi
      obtain ⟨y0, y1, n', hyd, hl', g0, g1⟩ := trod_pair7 Try.underlying39 hy
      match cs, hl with
      | [c0, c1], _ =>
        simp only [cells_term, List.drop_zero, List.take_succ_cons, List.take_zero, List.drop_succ_cons] at g0 g1
        have hyw0 : ∀ n ∈ y0.1.weights Try.prog 37, n ≤ reachBytes := fun n hn => hyw n (by
          rw [hyd]
          simp only [DataW.weights, Try.underlying39]
          simp [DataW.weightsEach, hn])
        have hyw1 : ∀ n ∈ y1.1.weights Try.prog 37, n ≤ reachBytes := fun n hn => hyw n (by
          rw [hyd]
          simp only [DataW.weights, Try.underlying39]
          simp [DataW.weightsEach, hn])
        obtain ⟨xo, xc, xs, e0, k0⟩ := open_ints Try.underlying37 g0 hyw0
        obtain ⟨yo, yc, ys, e1, k1⟩ := open_ints Try.underlying37 g1 hyw1
        simp only [List.cons.injEq, and_true] at e0 e1
        subst e0 e1
        exact ⟨(xs, ys), xo, xc, yo, yc, by simpa using hcell 0 (by omega), by simpa using hcell 1 (by omega), k0, k1⟩
    obtain ⟨f, hf⟩ := Classical.axiomOfChoice (r := fun (i : Fin len) (x : Ru) => RuAt w a.block (a.off + i * 2) x) (fun i => each i i.2)
    refine ⟨List.ofFn f, by simp, ?_, by simpa using hl1, by simpa [reachBytes] using hsz⟩
    by_cases h0 : len = 0
    · subst h0; exact .inl (by simp)
    · obtain ⟨ea, hlt, _⟩ := hall 0 (by omega)
      refine .inr ⟨a.block, a.off, by rw [← ea], hlt, fun i hi => ?_⟩
      have hi' : i < len := by simpa using hi
      simpa using hf ⟨i, hi'⟩
end
end Go.Proofs.Ytppdopccipngpaa
/- Two lists of the same rules; a store beside another one; an error asked whether it is nil. -/
namespace Go.Proofs.Ytppdopccipngpaa
set_option linter.unusedVariables false
set_option maxRecDepth 100000
open Go.RowKit
attribute [local go_sem ↓] Go.wp_at_zero Go.wp_at_succ
set_option maxHeartbeats 4000000 in
theorem srules_any {w : World} {ao bo : Option Addr} {ac bc : Nat} {l : List Ru} (ha : RsAt w ao l) (hb : RsAt w bo l) (hl : l.length ≤ 140737488355328) :
    Calls Try.prog 15 #[.slice ao l.length ac, .slice bo l.length bc] w fun e w' => e = .returned (.bool true) ∧ Same0 w w' := by
  have M0 : Same0 w w := Kept.refl _ _
  go_enter Try.func15, Try.ntmps15
  go_wp2
  go_loopw [5] (fun i wr => ∃ k : Nat, k ≤ l.length ∧ i = .int .i64 (k : Int) ∧ Same0 w wr) (fun i _ => l.length - (intOf i).toNat)
  case atStart => exact ⟨0, Nat.zero_le _, rfl, M0⟩
  case round =>
    clear M0
    obtain ⟨k, hk, rfl, hs⟩ := hrel
    by_cases hlt : k < l.length
    · obtain ⟨xb, xo, rfl, hxb, x1o, x1c, x2o, x2c, p0, p1, X1, X2⟩ := (ha.same hs).get hlt
      obtain ⟨yb, yo, rfl, hyb, y1o, y1c, y2o, y2c, r0, r1, Y1, Y2⟩ := (hb.same hs).get hlt
      have i1 : (0 : Int) ≤ (k : Int) := by omega
      have i2 : (k : Int) < (l.length : Int) := by omega
      generalize l[k] = x at *
      have s1 := X1.size
      have s2 := X2.size
      have HS : Hid (∀ ww, Same0 wr ww → (ww.cell? ⟨xb, xo + k * 2, none⟩ = some (.slice x1o x.1.length x1c) ∧ ww.cell? ⟨xb, xo + k * 2 + 1, none⟩ = some (.slice x2o x.2.length x2c)) ∧ ww.cell? ⟨yb, yo + k * 2, none⟩ = some (.slice y1o x.1.length y1c) ∧ ww.cell? ⟨yb, yo + k * 2 + 1, none⟩ = some (.slice y2o x.2.length y2c)) := fun ww hk => ⟨⟨(hk.cell (p := ⟨xb, xo + k * 2, none⟩) hxb (fun f => f)).trans p0, (hk.cell (p := ⟨xb, xo + k * 2 + 1, none⟩) hxb (fun f => f)).trans p1⟩, (hk.cell (p := ⟨yb, yo + k * 2, none⟩) hyb (fun f => f)).trans r0, (hk.cell (p := ⟨yb, yo + k * 2 + 1, none⟩) hyb (fun f => f)).trans r1⟩
      have C1 : Hid (∀ ww, Same0 wr ww → Calls Try.prog 28 #[.slice x1o x.1.length x1c, .slice y1o x.1.length y1c] ww fun e w' => e = .returned (.bool true) ∧ Same0 wr w') := fun ww hk => (same_any (X1.same hk).at' (Y1.same hk).at' (by unfold maxLen; omega)).mono (fun e w' ⟨q1, q2⟩ => ⟨by rw [q1]; simp [sameB], hk.trans' q2⟩)
      have C2 : Hid (∀ ww, Same0 wr ww → Calls Try.prog 28 #[.slice x2o x.2.length x2c, .slice y2o x.2.length y2c] ww fun e w' => e = .returned (.bool true) ∧ Same0 wr w') := fun ww hk => (same_any (X2.same hk).at' (Y2.same hk).at' (by unfold maxLen; omega)).mono (fun e w' ⟨q1, q2⟩ => ⟨by rw [q1]; simp [sameB], hk.trans' q2⟩)
      have W1 : Same0 wr wr.drew := Kept.drew (Kept.refl _ _)
      obtain ⟨⟨c0, c1⟩, c2, c3⟩ := HS.out wr (Kept.refl _ _)
      have CC0 := And.intro c0 c2
      clear p0 p1 r0 r1 X1 X2 Y1 Y2 ha hb
      go_wp2
      go_region_held3 (fun w' => w'.cell? ⟨xb, xo + k * 2, none⟩ = some (.slice x1o x.1.length x1c) ∧ w'.cell? ⟨yb, yo + k * 2, none⟩ = some (.slice y1o x.1.length y1c)) (first | exact cc1 | exact CC0) (first | (go_at_call 28; refine (C1.out _ W1).mono ?_; rintro e w2 ⟨rfl, hw2⟩; have cc1 := And.intro (HS.out _ hw2).1.1 (HS.out _ hw2).2.1))
      all_goals
        have W2 : Same0 wr w2.drew := Kept.drew hw2
        have CC1 := And.intro (HS.out _ hw2).1.2 (HS.out _ hw2).2.2
        clear CC0 cc1 W1 c0 c1 c2 c3
        go_wp2
        go_region_held3 (fun w' => w'.cell? ⟨xb, xo + k * 2 + 1, none⟩ = some (.slice x2o x.2.length x2c) ∧ w'.cell? ⟨yb, yo + k * 2 + 1, none⟩ = some (.slice y2o x.2.length y2c)) (first | exact cc2 | exact CC1) (first | (go_at_call 28; refine (C2.out _ W2).mono ?_; rintro e w3 ⟨rfl, hw3⟩; have cc2 := And.intro (HS.out _ hw3).1.2 (HS.out _ hw3).2.2))
        all_goals
          go_wp2
          exact ⟨⟨k + 1, by omega, by go_num, hs.trans' hw3⟩, by simp [intOf]; omega⟩
    · go_wp2
      go_ret
      exact ⟨rfl, hs⟩
/-- A store stays, whatever another one of other blocks does. -/
theorem StAt.other {w w' : World} {b bs b2 : Nat} {L : List Sym} {R : List Ru} {lv lv2 : Value} {vs : List Value} (h : StAt w b bs L R lv vs) (hk : Kept (StoB w b2 lv2) w w') (h2 : ∀ k, StoB w b2 lv2 k → IsSt w k) (hb : b ≠ b2) (hr : ∀ k, lv2.ownBlock = some k → ∃ c, w.heap[k]? = some (.cells c 39 (0, 0))) (hb2 : ∃ c, w.heap[b2]? = some (.cells c 69 (0, 0))) (hd : ∀ k, lv.ownBlock = some k → lv2.ownBlock ≠ some k) : StAt w' b bs L R lv vs := by
  refine ⟨hk.at h.blk ?_, sg_up (h.sig.kept_ty hk h2) hk.size, hk.row h.row ?_, h.own.kept hk (fun k e => (h2 k e).no_int), h.le, h.ok⟩
  · rintro (e | e)
    · exact hb e
    · obtain ⟨c, hc⟩ := hr b e
      rw [h.blk] at hc; cases hc
  · rintro k e (q | q)
    · subst q
      obtain ⟨c, hc⟩ := own_blk h.row e
      obtain ⟨c', hc'⟩ := hb2
      rw [hc] at hc'; cases hc'
    · exact hd k e q
theorem StAt.beside {w w' : World} {b bs b2 bs2 : Nat} {L L2 : List Sym} {R R2 : List Ru} {lv lv2 : Value} {vs vs2 : List Value} (h : StAt w b bs L R lv vs) (k : StAt w b2 bs2 L2 R2 lv2 vs2) (hk : Kept (StoB w b2 lv2) w w') (hb : b ≠ b2) (hd : ∀ k, lv.ownBlock = some k → lv2.ownBlock ≠ some k) : StAt w' b bs L R lv vs :=
  h.other hk k.isSt hb (fun q e => own_blk k.row e) ⟨_, k.blk⟩ hd
/-- An error that is nil, or a Fault: what a comparison with nil answers. -/
theorem err_bool {v : Value} (h : v = .nilIface ∨ ∃ k, v = .iface 78 (.pointer (some ⟨k, 0, none⟩))) : ∃ z : Bool, (∀ w : World, (binOp .eql 28 v .nilIface).run Try.prog w = .ok (.bool z) w) ∧ (∀ (k : Nat) (w : World), (eqGuard .eql 28 (.tmp k) (.const .nilIface) v .nilIface).run Try.prog w = .ok () w) ∧ (z = true ↔ v = .nilIface) := by
  rcases h with rfl | ⟨k, rfl⟩
  · exact ⟨true, fun w => by kernel_rfl, fun k w => by kernel_rfl, by simp⟩
  · exact ⟨false, fun w => by kernel_rfl, fun k w => by kernel_rfl, by simp⟩
end Go.Proofs.Ytppdopccipngpaa
/- The walk of RulesOne. -/
namespace Go.Proofs.Ytppdopccipngpaa
set_option linter.unusedVariables false
set_option maxRecDepth 100000
open Go.RowKit
attribute [local go_sem ↓] Go.wp_at_zero Go.wp_at_succ
/-- What Add has done, with its frame. -/
def AddTwo (L : List Sym) (R l : List Ru) (b bs : Nat) (lv : Value) (w : World) (e : Ending) (w' : World) : Prop :=
  ∃ v R' lv' vs', e = .returned v ∧ StAt w' b bs L R' lv' vs' ∧ Kept (StoB w b lv) w w' ∧ (∀ k, lv'.ownBlock = some k → lv.ownBlock = some k ∨ w.heap.size ≤ k) ∧
    ((v = .nilIface ∧ R' = R ++ l ∧ Ans L R l []) ∨ ((∃ k, v = .iface 78 (.pointer (some ⟨k, 0, none⟩))) ∧ R' = R ∧ ¬ Ans L R l []))
theorem add_two {w : World} {b bs : Nat} {L : List Sym} {R : List Ru} {lv : Value} {vs : List Value} {lo : Option Addr} {l : List Ru} {lc : Nat} (h : StAt w b bs L R lv vs) (hl : RsAt w lo l) (hll : l.length ≤ 140737488355328) (hlc : l.length ≤ lc) :
    Calls Try.prog 9 #[.pointer (some ⟨b, 0, none⟩), .slice lo l.length lc] w (AddTwo L R l b bs lv w) := by
  refine (add_rules h hl hll hlc).mono ?_
  rintro e w' ⟨ws, v, rfl, hA, hv, hws, hno, hyes⟩
  rcases hA.flt hv with ⟨rfl, rfl⟩ | ⟨hne, k, rfl⟩
  · obtain ⟨lv', vs', q1, q2, q3⟩ := hyes rfl
    exact ⟨_, R ++ l, lv', vs', rfl, q1, q2, q3, .inl ⟨rfl, rfl, hA⟩⟩
  · have hk := hno hne
    exact ⟨_, R, lv, vs, rfl, h.same hk, hk.mono', fun k e => .inl e, .inr ⟨⟨k, rfl⟩, rfl, fun hn => hne (hA.uniq hn)⟩⟩
/-- Two stores, and the laws' own records of them. -/
structure Two (w wr : World) (q1 q2 b1 b2 bs1 bs2 m1 m2 : Nat) (L : List Sym) (Rx Ry : List Ru) (lvx lvy : Value) (vsx vsy : List Value) : Prop where
  x : StAt wr b1 bs1 L Rx lvx vsx
  y : StAt wr b2 bs2 L Ry lvy vsy
  ne : b1 ≠ b2
  d : ∀ k, lvx.ownBlock = some k → lvy.ownBlock ≠ some k
  c1 : wr.heap[q1]? = some (.cells #[.pointer (some ⟨bs1, 0, none⟩), .pointer (some ⟨b1, 0, none⟩), .pointer (some ⟨m1, 0, none⟩)] 33 (0, 0))
  c2 : wr.heap[q2]? = some (.cells #[.pointer (some ⟨bs2, 0, none⟩), .pointer (some ⟨b2, 0, none⟩), .pointer (some ⟨m2, 0, none⟩)] 33 (0, 0))
  k : Same0 w wr
  f : w.heap.size ≤ b2
  l : ∀ k, lvy.ownBlock = some k → w.heap.size ≤ k
theorem side_sto {w w' : World} {b q : Nat} {lv : Value} {cs : Array Value} (h : w.heap[q]? = some (.cells cs 33 (0, 0))) (hk : Kept (StoB w b lv) w w') (hs : ∀ k, StoB w b lv k → IsSt w k) : w'.heap[q]? = some (.cells cs 33 (0, 0)) :=
  hk.at h (fun e => by rcases hs _ e with ⟨c, e⟩ | ⟨c, e⟩ <;> (rw [h] at e; cases e))
theorem Two.same {w wr wr' : World} {q1 q2 b1 b2 bs1 bs2 m1 m2 : Nat} {L : List Sym} {Rx Ry : List Ru} {lvx lvy : Value} {vsx vsy : List Value} (h : Two w wr q1 q2 b1 b2 bs1 bs2 m1 m2 L Rx Ry lvx lvy vsx vsy) (hk : Same0 wr wr') : Two w wr' q1 q2 b1 b2 bs1 bs2 m1 m2 L Rx Ry lvx lvy vsx vsy :=
  ⟨h.x.same hk, h.y.same hk, h.ne, h.d, hk.at0 h.c1, hk.at0 h.c2, h.k.trans' hk, h.f, h.l⟩
theorem Two.step {w wr wr' : World} {q1 q2 b1 b2 bs1 bs2 m1 m2 : Nat} {L : List Sym} {Rx Ry Ry' : List Ru} {lvx lvy lvy' : Value} {vsx vsy vsy' : List Value} (h : Two w wr q1 q2 b1 b2 bs1 bs2 m1 m2 L Rx Ry lvx lvy vsx vsy) (hy : StAt wr' b2 bs2 L Ry' lvy' vsy') (hk : Kept (StoB wr b2 lvy) wr wr') (hl : ∀ k, lvy'.ownBlock = some k → lvy.ownBlock = some k ∨ wr.heap.size ≤ k) : Two w wr' q1 q2 b1 b2 bs1 bs2 m1 m2 L Rx Ry' lvx lvy' vsx vsy' := by
  refine ⟨h.x.beside h.y hk h.ne h.d, hy, h.ne, fun k e e' => ?_, side_sto h.c1 hk h.y.isSt, side_sto h.c2 hk h.y.isSt, Kept.trans h.k hk (fun i hi e => ?_), h.f, fun k e => ?_⟩
  · rcases hl k e' with q | q
    · exact h.d k e q
    · have := (h.x.row.lt k e).2; omega
  · rcases e with e | e
    · have := h.f; omega
    · have := h.l i e; omega
  · rcases hl k e with q | q
    · exact h.l k q
    · have := h.k.size; omega
theorem rs_at {w : World} {k g c g' c' : Nat} {x : Ru} {T : TypeId} (hb : w.heap[k]? = some (.cells #[.slice (some ⟨g, 0, none⟩) x.1.length c, .slice (some ⟨g', 0, none⟩) x.2.length c'] T (0, 0))) (h1 : TmAt w g c x.1) (h2 : TmAt w g' c' x.2) (hl : x.1.length ≤ 2000 ∧ x.2.length ≤ 2000) : RsAt w (some ⟨k, 0, none⟩) [x] :=
  .inr ⟨k, 0, rfl, lt_of_at hb, fun i hi => by
    obtain rfl : i = 0 := by simp at hi; omega
    exact ⟨_, _, _, _, cellAt hb 0, cellAt hb 1, h1.arg hl.1, h2.arg hl.2⟩⟩
set_option maxHeartbeats 8000000 in
theorem one_walk {w : World} {ao : Option Addr} {len cap : Nat} {xs : List Sym} (hx : SymsAt w ao len xs) (hm : len ≤ maxLen) {so : Option Addr} {sc : Nat} {l : List Ru} (hs : ArgR w so l sc) :
    Calls Try.prog 5 #[.slice ao len cap, .slice so l.length sc] w fun e w' => e = .returned (.bool true) ∧ Below w.heap.size w w' := by
  have sz := hs.size
  go_enter Try.func5, Try.ntmps5
  go_wp2_with fail
  refine (awake7_any w).mono ?_
  rintro e w1 ⟨rfl, K1⟩
  go_wp2_with fail
  refine (begun_any ao len cap xs w1 (hx.kept K1.below) hm).mono ?_
  rintro e w2 ⟨q1, bs1, b1, m1, rv1, rfl, hq1, hst1, _, _, hk2, zb1, zq1, _⟩
  have K2 := K1.trans' hk2
  go_wp2_with fail
  refine (begun_any ao len cap xs w2 (hx.kept K2.below) hm).mono ?_
  rintro e w3 ⟨q2, bs2, b2, m2, rv2, rfl, hq2, hst2, _, _, hk3, zb2, zq2, _⟩
  have K3 := K2.trans' hk3
  generalize madeL xs = L at *
  have lt1 := lt_of_at hst1.blk
  have T0 : Two w w3 q1 q2 b1 b2 bs1 bs2 m1 m2 L [] [] (.slice none 0 0) (.slice none 0 0) [] [] := ⟨hst1.same hk3, hst2, by omega, (fun k e => by cases e), hk3.at0 hq1, hq2, K3, by have := K2.size; omega, (fun k e => by cases e)⟩
  have f1 : w.heap.size ≤ b1 := by have := K1.size; omega
  have A3 : RsAt w3 so l := hs.at'.same K3
  clear hst1 hst2 hq1 hq2 hk2 hk3 K1 K2 K3 zb1 zb2 zq1 zq2 lt1
  have Q1 := cellAt T0.c1 1
  simp only [List.getElem?_toArray, List.getElem?_cons_succ, List.getElem?_cons_zero] at Q1
  obtain ⟨ro, rc, e0, hR⟩ := T0.x.read
  have C4 := checkR_any (lc := sc) hR A3 (by omega) hs.cap'
  unfold ChkPost at C4
  clear e0 hR
  go_upto_region 7 with (first | (go_at_call 14; refine C4.mono ?_; rintro e w4 ⟨ws, v4, rfl, hA4, hv4, _, hk4⟩; obtain ⟨z4, e4, g4, i4⟩ := err_bool ((hA4.flt hv4).imp (fun q => q.2) (fun q => q.2))))
  have Z4 : Hid (z4 = true ↔ Ans L [] l []) := by
    show _ ↔ _
    rw [i4]
    rcases hA4.flt hv4 with ⟨rfl, rfl⟩ | ⟨hne, k, rfl⟩
    · simp [hA4]
    · simp; exact fun hn => hne (hA4.uniq hn)
  have T1 := T0.same hk4
  have A4 := A3.same hk4
  have Q1' := cellAt T1.c1 1
  simp only [List.getElem?_toArray, List.getElem?_cons_succ, List.getElem?_cons_zero] at Q1'
  have C5 := add_two (lc := sc) T1.x A4 (by omega) hs.cap'
  clear C4 hA4 hv4 hk4 T0 A3 Q1 e4 g4 i4
  go_upto_region 8 with (first | (go_at_call 9; refine C5.mono ?_; rintro e w5 ⟨v5, Rx, lvx, vsx, rfl, hst5, kst5, hl5, ha5⟩))
  obtain ⟨z5, e5, g5, i5⟩ := err_bool (ha5.imp (fun q => q.1) (fun q => q.1))
  have E45 : Hid (z5 = z4) := by
    have h1 := Z4.out
    show _ = _
    rw [Bool.eq_iff_iff, i5, h1]
    rcases ha5 with ⟨rfl, _, q⟩ | ⟨⟨k, rfl⟩, _, q⟩
    · simp [q]
    · simp [q]
  have RX : Hid (Rx = if z4 = true then l else []) := by
    have h1 := Z4.out
    show _ = _
    rcases ha5 with ⟨_, q1, q⟩ | ⟨_, q1, q⟩
    · rw [if_pos (h1.2 q), q1]; rfl
    · rw [if_neg (fun e => q (h1.1 e)), q1]
  have T2 : Two w w5 q1 q2 b1 b2 bs1 bs2 m1 m2 L Rx [] lvx (.slice none 0 0) vsx [] := ⟨hst5, T1.y.beside T1.x kst5 T1.ne.symm (fun k e => by cases e), T1.ne, (fun k e e' => by cases e'), side_sto T1.c1 kst5 T1.x.isSt, side_sto T1.c2 kst5 T1.x.isSt, Kept.trans T1.k kst5 (fun i hi e => by
      rcases e with e | e
      · omega
      · cases e), T1.f, (fun k e => by cases e)⟩
  have A : Hid (∀ ww, Same0 w ww → RsAt ww so l) := fun ww hk => hs.at'.same hk
  have hcap := hs.cap'
  clear C5 hst5 kst5 hl5 ha5 T1 A4 Q1' i5 hs hx
  go_wp2
  go_loopw [10, 11] (fun x i wr => ∃ (n : Nat) (z : Bool) (Ry : List Ru) (lvy : Value) (vsy : List Value), n ≤ l.length ∧ i = .int .i64 (n : Int) ∧ x = .bool z ∧ Two w wr q1 q2 b1 b2 bs1 bs2 m1 m2 L Rx Ry lvx lvy vsx vsy ∧ Hid ((z = true ∧ Ry = l.take n ∧ ∀ m (h : m < l.length), m < n → Ans L (l.take m) [l[m]] []) ∨ (z = false ∧ ¬ Ans L [] l []))) (fun _ i _ => l.length - (intOf i).toNat)
  case atStart => exact ⟨0, true, [], _, _, Nat.zero_le _, rfl, rfl, T2, .inl ⟨rfl, by simp, fun m _ hm => absurd hm (by omega)⟩⟩
  case round =>
    clear T2
    obtain ⟨n, z, Ry, lvy, vsy, hn, rfl, rfl, T3, H3⟩ := hrel
    by_cases hgo : n < l.length ∧ z = true
    · obtain ⟨hlt, rfl⟩ := hgo
      obtain ⟨rfl, hall⟩ : Ry = l.take n ∧ ∀ m (h : m < l.length), m < n → Ans L (l.take m) [l[m]] [] := by
        rcases H3.out with ⟨_, q1, q2⟩ | ⟨q, _⟩
        · exact ⟨q1, q2⟩
        · cases q
      obtain ⟨sb, soff, rfl, hsb, hru⟩ := (A.out _ T3.k).get hlt
      have A1 : RsAt wr (some ⟨sb, soff + n * 2, none⟩) [l[n]] := .inr ⟨sb, soff + n * 2, rfl, hsb, fun i hi => by
        obtain rfl : i = 0 := by simp at hi; omega
        exact hru⟩
      have i1 : (0 : Int) ≤ (n : Int) := by omega
      have i2 : (n : Int) + 1 ≤ (sc : Int) := by omega
      have i3 : (n : Int) < (l.length : Int) := by omega
      have i4 : ¬ sc = n := by omega
      have i5 : IntKind.i64.wrap ((n : Int) + 1) = (n : Int) + 1 := iwrap (by omega) (by omega)
      have i6 : (0 : Int) ≤ (n : Int) + 1 := by omega
      have i7 : (n : Int) ≤ (n : Int) + 1 := by omega
      have i8 : (n : Int) ≤ (sc : Int) := by omega
      have i9 : ((n : Int) + 1).toNat = n + 1 := by omega
      have i10 : n + 1 - n = 1 := by omega
      have CA : Hid (∀ ww, Same0 wr ww → ∀ lc, 1 ≤ lc → Calls Try.prog 9 #[.pointer (some ⟨b2, 0, none⟩), .slice (some ⟨sb, soff + n * 2, none⟩) 1 lc] ww fun e w' => ∃ v R' lv' vs' z, e = .returned v ∧ Two w w' q1 q2 b1 b2 bs1 bs2 m1 m2 L Rx R' lvx lv' vsx vs' ∧ (∀ w : World, (binOp .eql 28 v .nilIface).run Try.prog w = .ok (.bool z) w) ∧ (∀ (k : Nat) (w : World), (eqGuard .eql 28 (.tmp k) (.const .nilIface) v .nilIface).run Try.prog w = .ok () w) ∧ Hid ((z = true ∧ R' = l.take (n + 1) ∧ ∀ m (h : m < l.length), m < n + 1 → Ans L (l.take m) [l[m]] []) ∨ (z = false ∧ ¬ Ans L [] l []))) := by
        intro ww hk lc hlc
        have T4 := T3.same hk
        refine (add_two (l := [l[n]]) (lc := lc) T4.y (A1.same hk) (by simp) (by simpa using hlc)).mono ?_
        rintro e w' ⟨v, R', lv', vs', rfl, p1, p2, p3, p4⟩
        obtain ⟨z, e6, g6, i6⟩ := err_bool (p4.imp (fun q => q.1) (fun q => q.1))
        refine ⟨v, R', lv', vs', z, rfl, T4.step p1 p2 p3, e6, g6, ?_⟩
        rcases p4 with ⟨rfl, q1, q2⟩ | ⟨⟨k, rfl⟩, q1, q2⟩
        · refine .inl ⟨i6.2 rfl, by rw [q1, List.take_add_one, List.getElem?_eq_getElem hlt]; rfl, fun m hm hmn => ?_⟩
          by_cases e : m = n
          · subst e; exact q2
          · exact hall m hm (by omega)
        · refine .inr ⟨?_, fun hA => q2 (by simpa using each_of_all hA hlt)⟩
          cases z
          · rfl
          · exact absurd (i6.1 rfl) (by simp)
      have HS : Hid (∀ ww, Same0 wr ww → ww.cell? ⟨q2, 1, none⟩ = some (.pointer (some ⟨b2, 0, none⟩))) := fun ww hk => cellAt (T3.same hk).c2 1
      have CC0 := HS.out wr (Kept.refl _ _)
      have W1 : Same0 wr wr.drew := Kept.drew (Kept.refl _ _)
      clear H3 hall hru A1 T3
      go_wp2
      go_region_held3 (fun w' => w'.cell? ⟨q2, 1, none⟩ = some (.pointer (some ⟨b2, 0, none⟩))) (first | exact CC0 | exact cc1) (first | (go_at_call 9; refine (CA.out _ W1 _ (by omega)).mono ?_; rintro e w6 ⟨v6, R6, lv6, vs6, z6, rfl, T6, e6, g6, H6⟩; have cc1 := cellAt T6.c2 1; simp only [List.getElem?_toArray, List.getElem?_cons_succ, List.getElem?_cons_zero] at cc1))
      all_goals
        clear CC0 cc1 W1 CA HS i5 i6 i7 i9 i10
        go_wp2
        go_roundw
        case rel => first | exact ⟨n + 1, z6, R6, lv6, vs6, by omega, by go_num, rfl, T6, H6⟩ | ((repeat apply Exists.intro); exact ⟨⟨n + 1, z6, R6, lv6, vs6, by omega, by go_num, rfl, T6, H6⟩, rfl⟩)
        case measure => simp [intOf]; omega
    · have EZ : z = z4 ∧ (z4 = true → Ry = l) := by
        have h1 := Z4.out
        rcases H3.out with ⟨rfl, q1, q2⟩ | ⟨rfl, q⟩
        · have hnl : n = l.length := by
            have : ¬ n < l.length := fun h => hgo ⟨h, rfl⟩
            omega
          have hall : Ans L [] l [] := all_of_each (fun m hm => by simpa using q2 m hm (by omega))
          exact ⟨(h1.2 hall).symm, fun _ => by rw [q1, hnl, List.take_length]⟩
        · cases z4
          · exact ⟨rfl, fun e => by cases e⟩
          · exact absurd (h1.1 rfl) q
      obtain ⟨rfl, hRy⟩ := EZ
      have E5 := E45.out
      subst E5
      have RX1 := RX.out
      have g10 : (decide ((n : Int) < (l.length : Int)) && z5) = false := by
        cases z5
        · simp
        · simp at hgo; simp; omega
      cases z5 with
      | false =>
        obtain rfl : Rx = [] := by simpa using RX1
        have Q1 := cellAt T3.c1 1
        simp only [List.getElem?_toArray, List.getElem?_cons_succ, List.getElem?_cons_zero] at Q1
        have CL := slen_any T3.x
        have FIN : Hid (Below w.heap.size w wr) := T3.k.below
        clear RX RX1 E45 Z4 H3 hRy T3 A
        by_cases hlt : n < l.length
        · have i1 : (n : Int) < (l.length : Int) := by omega
          go_wp2_with (first | (go_at_call 10; refine CL.mono ?_; rintro e w8 ⟨rfl, rfl⟩))
          go_ret
          exact ⟨rfl, FIN.out⟩
        · have i1 : ¬ (n : Int) < (l.length : Int) := by omega
          go_wp2_with (first | (go_at_call 10; refine CL.mono ?_; rintro e w8 ⟨rfl, rfl⟩))
          go_ret
          exact ⟨rfl, FIN.out⟩
      | true =>
        have ex : Rx = l := by simpa using RX1
        have ex' := ex.symm
        clear ex RX1 RX
        subst ex'
        have ey := (hRy rfl).symm
        clear hRy
        subst ey
        have i1 : ¬ (n : Int) < (l.length : Int) := by simp at hgo; omega
        clear E45 Z4 H3 hgo g10
        obtain ⟨we, hwe⟩ : ∃ we, we = wr := ⟨_, rfl⟩
        rw [← hwe] at T3 ⊢
        clear hwe
        have M0 : Same0 we we := Kept.refl _ _
        go_wp2
        go_loopw [12] (fun i wr => ∃ k : Nat, k ≤ l.length ∧ i = .int .i64 (k : Int) ∧ Same0 we wr) (fun i _ => l.length - (intOf i).toNat)
        case atStart => exact ⟨0, Nat.zero_le _, rfl, M0⟩
        case round =>
          clear M0
          obtain ⟨k, hk, rfl, hs⟩ := hrel
          have T4 := T3.same hs
          have Q1 := cellAt T4.c1 1
          have Q2 := cellAt T4.c2 1
          simp only [List.getElem?_toArray, List.getElem?_cons_succ, List.getElem?_cons_zero] at Q1 Q2
          by_cases hlt : k < l.length
          · obtain ⟨sb, soff, rfl, hsb, hru⟩ := (A.out _ T4.k).get hlt
            have A1 : RsAt wr (some ⟨sb, soff + k * 2, none⟩) [l[k]] := .inr ⟨sb, soff + k * 2, rfl, hsb, fun i hi => by
              obtain rfl : i = 0 := by simp at hi; omega
              exact hru⟩
            have hok := ok_len (T4.x.ok _ (List.getElem_mem hlt))
            have CA1 := sat_yes T4.x k hlt
            have CA2 : Hid (∀ ww, Same0 wr ww → Calls Try.prog 11 #[.pointer (some ⟨b2, 0, none⟩), .int .i64 (k : Int)] ww fun e w' => ∃ v, e = .returned (.tuple #[v, .int .i64 0]) ∧ RuOut ww.heap.size w' v l[k] ∧ Same0 ww w') := fun ww hk => sat_yes (T4.same hk).y k hlt
            have HQ : Hid (∀ ww, Same0 wr ww → ww.cell? ⟨q2, 1, none⟩ = some (.pointer (some ⟨b2, 0, none⟩))) := fun ww hk => cellAt (T4.same hk).c2 1
            obtain ⟨x, hx⟩ : ∃ x, x = l[k] := ⟨_, rfl⟩
            rw [← hx] at A1 hok CA1 CA2
            have hl2 : x.1.length ≤ 2000 ∧ x.2.length ≤ 2000 := ⟨hok.1.2, hok.2.2⟩
            clear hx hru T4
            go_upto_region 21 with (first | (go_at_call 11; refine CA1.mono ?_; rintro e w6 ⟨v6, rfl, ⟨g, c, g', c', rfl, t1, t2, _, _, _⟩, hk6⟩))
            have hna := heap_alloc_new w6 (.cells #[.slice (some ⟨g, 0, none⟩) x.1.length c, .slice (some ⟨g', 0, none⟩) x.2.length c'] 39)
            have ka : Same0 w6 (w6.alloc (.cells #[.slice (some ⟨g, 0, none⟩) x.1.length c, .slice (some ⟨g', 0, none⟩) x.2.length c'] 39)) := (Kept.refl _ _).alloc _
            have u1 := t1.same ka
            have u2 := t2.same ka
            have kra := hk6.trans' ka
            obtain ⟨wa, hwa⟩ : ∃ wa, wa = w6.alloc (.cells #[.slice (some ⟨g, 0, none⟩) x.1.length c, .slice (some ⟨g', 0, none⟩) x.2.length c'] 39) := ⟨_, rfl⟩
            rw [← hwa] at hna u1 u2 kra ⊢
            obtain ⟨ab, hab⟩ : ∃ ab, ab = w6.heap.size := ⟨_, rfl⟩
            rw [← hab] at hna ⊢
            have Q3 := HQ.out _ kra
            have CA3 := CA2.out _ kra
            clear hwa hab ka t1 t2 hk6 CA1 CA2 Q1 Q2
            go_upto_region 22 with (first | (go_at_call 11; refine CA3.mono ?_; rintro e w7 ⟨v7, rfl, ⟨h, d, h', d', rfl, p1, p2, _, _, _⟩, hk7⟩))
            have hnb := heap_alloc_new w7 (.cells #[.slice (some ⟨h, 0, none⟩) x.1.length d, .slice (some ⟨h', 0, none⟩) x.2.length d'] 39)
            have kb : Same0 w7 (w7.alloc (.cells #[.slice (some ⟨h, 0, none⟩) x.1.length d, .slice (some ⟨h', 0, none⟩) x.2.length d'] 39)) := (Kept.refl _ _).alloc _
            have k7b := hk7.trans' kb
            have r1 := p1.same kb
            have r2 := p2.same kb
            have u3 := u1.same k7b
            have u4 := u2.same k7b
            have hnab := k7b.at0 hna
            have krb := kra.trans' k7b
            obtain ⟨wb, hwb⟩ : ∃ wb, wb = w7.alloc (.cells #[.slice (some ⟨h, 0, none⟩) x.1.length d, .slice (some ⟨h', 0, none⟩) x.2.length d'] 39) := ⟨_, rfl⟩
            rw [← hwb] at hnb r1 r2 u3 u4 hnab krb ⊢
            obtain ⟨bb, hbb⟩ : ∃ bb, bb = w7.heap.size := ⟨_, rfl⟩
            rw [← hbb] at hnb ⊢
            have a0 := cellAt hnab 0
            have a1 := cellAt hnab 1
            have a2 := fun o => cell_al (cellAt hnb 0) o
            have a3 := fun o => cell_al (cellAt hnb 1) o
            simp only [List.getElem?_toArray, List.getElem?_cons_succ, List.getElem?_cons_zero] at a0 a1
            have kc : Same0 wb (wb.alloc (.cells #[.slice (some ⟨g, 0, none⟩) x.1.length c, .slice (some ⟨g', 0, none⟩) x.2.length c'] 39)) := (Kept.refl _ _).alloc _
            have kd : Same0 (wb.alloc (.cells #[.slice (some ⟨g, 0, none⟩) x.1.length c, .slice (some ⟨g', 0, none⟩) x.2.length c'] 39)) ((wb.alloc (.cells #[.slice (some ⟨g, 0, none⟩) x.1.length c, .slice (some ⟨g', 0, none⟩) x.2.length c'] 39)).alloc (.cells #[.slice (some ⟨h, 0, none⟩) x.1.length d, .slice (some ⟨h', 0, none⟩) x.2.length d'] 39)) := (Kept.refl _ _).alloc _
            have SR := srules_any (l := [x]) (ac := 1) (bc := 1) (rs_at (kd.at0 (heap_alloc_new wb _)) ((u3.same kc).same kd) ((u4.same kc).same kd) hl2) (rs_at (heap_al_al wb _ _) ((r1.same kc).same kd) ((r2.same kc).same kd) hl2) (by simp)
            have SRk : Hid (Same0 wb ((wb.alloc (.cells #[.slice (some ⟨g, 0, none⟩) x.1.length c, .slice (some ⟨g', 0, none⟩) x.2.length c'] 39)).alloc (.cells #[.slice (some ⟨h, 0, none⟩) x.1.length d, .slice (some ⟨h', 0, none⟩) x.2.length d'] 39))) := kc.trans' kd
            clear hwb hbb kb p1 p2 hk7 CA3 hna u1 u2 kra k7b Q3 kc kd
            go_upto_region 23 with (first | (go_at_call 15; refine SR.mono ?_; rintro e w8 ⟨rfl, hk8⟩))
            have K8 := SRk.out.trans' hk8
            have k8 := krb.trans' K8
            have hna8 := K8.at0 hnab
            have v1 := u3.same K8
            have v2 := u4.same K8
            have SR2 : Hid (∀ ww bk, Same0 w8 ww → ww.heap[bk]? = some (.cells #[.slice (some ⟨g, 0, none⟩) x.1.length c, .slice (some ⟨g', 0, none⟩) x.2.length c'] 39 (0, 0)) → ∀ lc, Calls Try.prog 15 #[.slice (some ⟨bk, 0, none⟩) 1 1, .slice (some ⟨sb, soff + k * 2, none⟩) 1 lc] ww fun e w' => e = .returned (.bool true) ∧ Same0 w8 w') := fun ww bk hk hb lc => (srules_any (l := [x]) (ac := 1) (bc := lc) (rs_at hb (v1.same hk) (v2.same hk) hl2) ((A1.same k8).same hk) (by simp)).mono (fun e w' ⟨q1, q2⟩ => ⟨q1, hk.trans' q2⟩)
            have HS : Hid (∀ ww, Same0 w8 ww → ww.cell? ⟨ab, 0, none⟩ = some (.slice (some ⟨g, 0, none⟩) x.1.length c) ∧ ww.cell? ⟨ab, 1, none⟩ = some (.slice (some ⟨g', 0, none⟩) x.2.length c')) := fun ww hk => ⟨cellAt (hk.at0 hna8) 0, cellAt (hk.at0 hna8) 1⟩
            have CC0 := HS.out w8 (Kept.refl _ _)
            have j1 : (0 : Int) ≤ (k : Int) := by omega
            have j2 : (k : Int) + 1 ≤ (sc : Int) := by omega
            have j3 : (k : Int) < (l.length : Int) := by omega
            have j4 : ¬ sc = k := by omega
            have j5 : IntKind.i64.wrap ((k : Int) + 1) = (k : Int) + 1 := iwrap (by omega) (by omega)
            have j6 : (0 : Int) ≤ (k : Int) + 1 := by omega
            have j7 : (k : Int) ≤ (k : Int) + 1 := by omega
            have j8 : (k : Int) ≤ (sc : Int) := by omega
            have j9 : ((k : Int) + 1).toNat = k + 1 := by omega
            have j10 : k + 1 - k = 1 := by omega
            clear SR SRk hk8 K8 krb hnab hnb u3 u4 r1 r2 a0 a1 a2 a3 hna8 v1 v2 A1
            go_region_held3 (fun w' => w'.cell? ⟨ab, 0, none⟩ = some (.slice (some ⟨g, 0, none⟩) x.1.length c) ∧ w'.cell? ⟨ab, 1, none⟩ = some (.slice (some ⟨g', 0, none⟩) x.2.length c')) (first | exact CC0 | exact cc1 | exact HS.out _ (Kept.alloc (Kept.refl _ _) _) | exact HS.out _ (Kept.drew (Kept.alloc (Kept.refl _ _) _))) (first | (go_at_call 15; refine (SR2.out _ _ (Kept.drew (Kept.alloc (Kept.refl _ _) _)) (heap_alloc_new _ _) _).mono ?_; rintro e w9 ⟨rfl, hk9⟩; have cc1 := HS.out _ hk9))
            all_goals
              clear CC0 cc1 SR2 HS j5 j6 j7 j9 j10
              go_wp2
              go_roundw
              case rel => first | exact ⟨k + 1, by omega, by go_num, hs.trans' (k8.trans' hk9)⟩ | ((repeat apply Exists.intro); exact ⟨⟨k + 1, by omega, by go_num, hs.trans' (k8.trans' hk9)⟩, rfl⟩)
              case measure => simp [intOf]; omega
          · have CL1 := slen_any T4.x
            have CL2 := slen_any T4.y
            have FIN : Hid (Below w.heap.size w wr) := T4.k.below
            clear T3 T4 A
            go_upto_region 25 with fail
            go_wp2_with (first | (go_at_call 10; refine CL1.mono ?_; rintro e w8 ⟨rfl, rfl⟩) | (go_at_call 10; refine CL2.mono ?_; rintro e w8 ⟨rfl, rfl⟩))
            go_ret
            exact ⟨rfl, FIN.out⟩
end Go.Proofs.Ytppdopccipngpaa
