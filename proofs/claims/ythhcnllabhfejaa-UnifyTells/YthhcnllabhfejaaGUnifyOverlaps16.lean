import Derived.Test.YthhcnllabhfejaaGUnifyOverlaps03
import Derived.Test.YthhcnllabhfejaaGUnifyOverlaps06
import Derived.SizedLaws
import Derived.Test.YthhcnllabhfejaaGUnifyOverlaps05
import Derived.Test.YthhcnllabhfejaaGUnifyOverlaps13
import Derived.Test.YthhcnllabhfejaaGUnifyOverlaps08
import Derived.Laws.AppendOwnNone
/- The argument of layer 2's statements, opened: symbols, a list, a place, another list, a path. -/
namespace Go.Proofs.Ythhcnllabhfejaa
set_option linter.unusedVariables false
open Go.RowKit Go.Deep
/-- A list of numbers that came in. -/
structure Arg (w : World) (ao : Option Addr) (xs : List Int) (cap : Nat) : Prop where
  at' : IntsAt w ao xs
  cap' : xs.length ≤ cap
  nil : ao = none → xs.length = 0 ∧ cap = 0
  size : xs.length * 8 ≤ 140737488351232
section
variable {H : Type} {enc : TypeId × Value → H} {w : World} {spare : Nat → Bool} {held : Bool}
theorem trod_struct5 {P : Program} {base : Nat} {t : TypeId} {f0 f1 f2 f3 f4 : Field} {fuel : Nat} {cs : List Value} {x : DataW H × List MemPlace} (ht : P.underlying t = some (.struct #[f0, f1, f2, f3, f4])) (h : DataW.trod enc P w base spare held fuel t cs = some x) :
    ∃ y0 y1 y2 y3 y4 n, x.1 = .agg [y0.1, y1.1, y2.1, y3.1, y4.1] ∧ cs.length = P.cellsOf t ∧ DataW.trod enc P w base spare held n f0.type ((cs.drop f0.offset).take (P.cellsOf f0.type)) = some y0 ∧
      DataW.trod enc P w base spare held n f1.type ((cs.drop f1.offset).take (P.cellsOf f1.type)) = some y1 ∧ DataW.trod enc P w base spare held n f2.type ((cs.drop f2.offset).take (P.cellsOf f2.type)) = some y2 ∧
      DataW.trod enc P w base spare held n f3.type ((cs.drop f3.offset).take (P.cellsOf f3.type)) = some y3 ∧ DataW.trod enc P w base spare held n f4.type ((cs.drop f4.offset).take (P.cellsOf f4.type)) = some y4 := by
  obtain ⟨xs, n, _, rfl, hl, hlen, hf⟩ := DataW.trod_struct ht h
  match xs, hlen with
  | [y0, y1, y2, y3, y4], _ => exact ⟨y0, y1, y2, y3, y4, n, by simp, hl, by simpa using hf 0 f0 rfl, by simpa using hf 1 f1 rfl, by simpa using hf 2 f2 rfl, by simpa using hf 3 f3 rfl, by simpa using hf 4 f4 rfl⟩
theorem bytes_int : Try.prog.bytesOf 3 = 8 := by kernel_rfl
theorem open_ints {t fuel : Nat} {cs : List Value} {x : DataW H × List MemPlace} (ht : Try.prog.underlying t = some (.slice 3)) (h : DataW.trod enc Try.prog w 0 spare held fuel t cs = some x) (hw : ∀ n ∈ x.1.weights Try.prog t, n ≤ reachBytes) :
    ∃ ao cap xs, cs = [.slice ao xs.length cap] ∧ Arg w ao xs cap := by
  have h' := h
  rcases open_slice ht h with ⟨hcs, _⟩ | ⟨a, len, cap, m, n, D, Pl, hcs, _, hl, hm, hmm, rfl, hx⟩
  · exact ⟨none, 0, [], hcs, .inl rfl, Nat.le_refl _, fun _ => ⟨rfl, rfl⟩, by simp⟩
  · subst hcs
    have hsz : len * 8 ≤ 140737488351232 := by
      have := hw ((((List.range len).map D).length + ((List.range (m - len)).map fun j => D (len + j)).length) * Try.prog.bytesOf 3) (by simp [DataW.weights, ht])
      rw [bytes_int] at this
      simp [reachBytes] at this
      omega
    rcases open_elems ht cells_int (by omega) h' with ⟨e, _, _⟩ | ⟨a', e, hl1, hl2, hall⟩
    · cases e
    · cases e
      have each : ∀ i, i < len → ∃ z : Int, w.cell? ⟨a.block, a.off + i, none⟩ = some (.int .i64 z) := by
        intro i hi
        obtain ⟨_, _, cs, n, y, hl, hcell, hy⟩ := hall i hi
        obtain ⟨z, e1, _, _⟩ := DataW.trod_int Try.underlying3 hy
        subst e1
        exact ⟨z, by simpa using hcell 0 (by omega)⟩
      obtain ⟨f, hf⟩ := Classical.axiomOfChoice (fun i : Fin len => each i i.2)
      refine ⟨some a, cap, List.ofFn f, by simp, ?_, by simpa using hl, (fun e => by cases e), by simpa using hsz⟩
      by_cases h0 : len = 0
      · subst h0; exact .inl (by simp)
      · obtain ⟨ea, hlt, _⟩ := hall 0 (by omega)
        refine .inr ⟨a.block, a.off, by rw [← ea], hlt, fun i hi => ?_⟩
        have hi' : i < len := by simpa using hi
        simpa using hf ⟨i, hi'⟩
theorem cells_syms : Try.prog.cellsOf 23 = 1 := by kernel_rfl
theorem cells_term : Try.prog.cellsOf 25 = 1 := by kernel_rfl
theorem cells_ints : Try.prog.cellsOf 24 = 1 := by kernel_rfl
theorem slice_one {t e fuel : Nat} {c : Value} {x : DataW H × List MemPlace} (ht : Try.prog.underlying t = some (.slice e)) (h : DataW.trod enc Try.prog w 0 spare held fuel t [c] = some x) : ∃ ao len cap, c = .slice ao len cap := by
  rcases open_slice ht h with ⟨hcs, _⟩ | ⟨a, len, cap, m, n, D, Pl, hcs, _⟩
  · simp at hcs; exact ⟨_, _, _, hcs⟩
  · simp at hcs; exact ⟨_, _, _, hcs⟩
/-- What a Case holds. -/
structure CaseIs (w : World) (v : Value) (lo : Option Addr) (ll lc : Nat) (ls : List Sym) (so : Option Addr) (tc : Nat) (t : List Int) (at' : Int) (uo : Option Addr) (uc : Nat) (u : List Int) (po : Option Addr) (pc : Nat) (path : List Int) : Prop where
  eq : v = .agg #[.slice lo ll lc, .slice so t.length tc, .int .i64 at', .slice uo u.length uc, .slice po path.length pc]
  syms : SymsAt w lo ll ls
  sl : ll ≤ maxLen
  t' : Arg w so t tc
  u' : Arg w uo u uc
  p' : Arg w po path pc
end
end Go.Proofs.Ythhcnllabhfejaa
/- The argument of layer 6's statements, opened: symbols, two terms, a third one. -/
namespace Go.Proofs.Ythhcnllabhfejaa
set_option linter.unusedVariables false
open Go.RowKit Go.Deep
section
variable {H : Type} {enc : TypeId × Value → H} {w : World} {spare : Nat → Bool} {held : Bool}
theorem trod_struct4 {P : Program} {base : Nat} {t : TypeId} {f0 f1 f2 f3 : Field} {fuel : Nat} {cs : List Value} {x : DataW H × List MemPlace} (ht : P.underlying t = some (.struct #[f0, f1, f2, f3])) (h : DataW.trod enc P w base spare held fuel t cs = some x) :
    ∃ y0 y1 y2 y3 n, x.1 = .agg [y0.1, y1.1, y2.1, y3.1] ∧ cs.length = P.cellsOf t ∧ DataW.trod enc P w base spare held n f0.type ((cs.drop f0.offset).take (P.cellsOf f0.type)) = some y0 ∧
      DataW.trod enc P w base spare held n f1.type ((cs.drop f1.offset).take (P.cellsOf f1.type)) = some y1 ∧ DataW.trod enc P w base spare held n f2.type ((cs.drop f2.offset).take (P.cellsOf f2.type)) = some y2 ∧
      DataW.trod enc P w base spare held n f3.type ((cs.drop f3.offset).take (P.cellsOf f3.type)) = some y3 := by
  obtain ⟨xs, n, _, rfl, hl, hlen, hf⟩ := DataW.trod_struct ht h
  match xs, hlen with
  | [y0, y1, y2, y3], _ => exact ⟨y0, y1, y2, y3, n, by simp, hl, by simpa using hf 0 f0 rfl, by simpa using hf 1 f1 rfl, by simpa using hf 2 f2 rfl, by simpa using hf 3 f3 rfl⟩
theorem cells_Case6 : Try.prog.cellsOf 27 = 4 := by kernel_rfl
/-- What a Case holds. -/
structure Case6Is (w : World) (v : Value) (lo : Option Addr) (ll lc : Nat) (ls : List Sym) (ao : Option Addr) (ac : Nat) (a : List Int) (bo : Option Addr) (bc : Nat) (b : List Int) (so : Option Addr) (tc : Nat) (t : List Int) : Prop where
  eq : v = .agg #[.slice lo ll lc, .slice ao a.length ac, .slice bo b.length bc, .slice so t.length tc]
  syms : SymsAt w lo ll ls
  sl : ll ≤ maxLen
  a' : Arg w ao a ac
  b' : Arg w bo b bc
  t' : Arg w so t tc
set_option maxRecDepth 100000 in
theorem open_case6 {r : Go.Reach} {b0 : Nat} {v : Value} {d : DataW H} {p : List MemPlace} (hv : Value.okWide Try.prog w r b0 27 v) (h : DataW.Trod enc Try.prog w 0 spare held 27 v d p) (hw : ∀ n ∈ d.weights Try.prog 27, n ≤ reachBytes) :
    ∃ lo ll lc ls ao ac a bo bc b so tc t, Case6Is w v lo ll lc ls ao ac a bo bc b so tc t := by
  obtain ⟨cs, rfl, _⟩ := Go.WideShapes.okWide_struct Try.underlying27 hv
  obtain ⟨fuel, hf⟩ := h
  have hf' : DataW.trod enc Try.prog w 0 spare held fuel 27 cs.toList = some (d, p) := by simpa [Value.cells] using hf
  obtain ⟨y0, y1, y2, y3, n, hd, hl, h0, h1, h2, h3⟩ := trod_struct4 Try.underlying27 hf'
  rw [cells_Case6] at hl
  obtain ⟨l⟩ := cs
  match l, hl with
  | [c0, c1, c2, c3], _ =>
    simp only [cells_syms, cells_term, List.drop_zero, List.take_succ_cons, List.take_zero, List.drop_succ_cons] at h0 h1 h2 h3
    have hd' : d = .agg [y0.1, y1.1, y2.1, y3.1] := hd
    subst hd'
    have hww : ∀ n ∈ DataW.weightsEach Try.prog [23, 25, 25, 25] [y0.1, y1.1, y2.1, y3.1], n ≤ reachBytes := by
      intro n hn
      apply hw
      simpa [DataW.weights, Try.underlying27] using hn
    simp only [DataW.weightsEach, List.mem_append] at hww
    obtain ⟨lo, ll, lc, rfl⟩ := slice_one Try.underlying23 h0
    obtain ⟨ls, g1, g2⟩ := open_syms h0
    obtain ⟨ao, ac, a, e1, k1⟩ := open_ints Try.underlying25 h1 (fun n hn => hww n (by simp [hn]))
    obtain ⟨bo, bc, b, e2, k2⟩ := open_ints Try.underlying25 h2 (fun n hn => hww n (by simp [hn]))
    obtain ⟨so, tc, t, e3, k3⟩ := open_ints Try.underlying25 h3 (fun n hn => hww n (by simp [hn]))
    simp only [List.cons.injEq, and_true] at e1 e2 e3
    subst e1 e2 e3
    exact ⟨lo, ll, lc, ls, ao, ac, a, bo, bc, b, so, tc, t, rfl, g1, g2, k1, k2, k3⟩
end
end Go.Proofs.Ythhcnllabhfejaa
/- The walk of the head of layer 6's statements: calls whose answers the document fixes. -/
namespace Go.Proofs.Ythhcnllabhfejaa
set_option maxRecDepth 100000
set_option linter.unusedVariables false
open Go.RowKit
attribute [local go_sem ↓] Go.wp_at_zero Go.wp_at_succ
theorem aw6_o : comE L3 [2, -1, 0] [2, 1, -1, -2] 99 = 0 ∧ comT L3 [2, -1, 0] [2, 1, -1, -2] 99 = [2, 1, -1, 0] := by decide +kernel
theorem aw6_u : comE L3 [2, -1, 0] [2, 1, -1, -2] 0 = 60 ∧ comT L3 [2, -1, 0] [2, 1, -1, -2] 0 = [] := by decide +kernel
theorem aw6_c : claE L3 [1, -1] [0] = 0 ∧ claB L3 [1, -1] [0] = true := by decide +kernel
theorem ints_pair (w : World) (xs ys : List Int) (T T' : TypeId) {o o' : Obj} (ho : o = .cells (iv xs).toArray T (0, 0)) (ho' : o' = .cells (iv ys).toArray T' (0, 0)) :
    IntsAt ((w.alloc o).alloc o') (some ⟨w.heap.size, 0, none⟩) xs ∧ IntsAt ((w.alloc o).alloc o') (some ⟨w.heap.size + 1, 0, none⟩) ys ∧ Same0 w ((w.alloc o).alloc o') := by
  have k1 : Same0 w (w.alloc o) := (Kept.refl _ w).alloc o
  have k2 : Same0 (w.alloc o) ((w.alloc o).alloc o') := (Kept.refl _ _).alloc o'
  refine ⟨(ints_new w xs T ho).same k2, ?_, k1.trans' k2⟩
  have := ints_new (w.alloc o) ys T' ho'
  rwa [World.size_alloc] at this
theorem aw6_over {n b : Nat} {w : World} (h : Sg n w b L3) (hn : n ≤ w.heap.size) {T T' : TypeId} :
    Calls Try.prog 14 #[.pointer (some ⟨b, 0, none⟩), .slice (some ⟨w.heap.size, 0, none⟩) 3 3, .slice (some ⟨w.heap.size + 1, 0, none⟩) 4 4] ((w.alloc (.cells #[.int .i64 2, .int .i64 (-1), .int .i64 0] T)).alloc (.cells #[.int .i64 2, .int .i64 1, .int .i64 (-1), .int .i64 (-2)] T')) fun e w' => ∃ v, e = .returned (.tuple #[v, .int .i64 0]) ∧ Row 0 w' v [2, 1, -1, 0] ∧ Same0 w w' := by
  obtain ⟨i1, i2, k⟩ := ints_pair w [2, -1, 0] [2, 1, -1, -2] T T' rfl rfl
  have c := overlap_any (xc := 3) (yc := 4) (sg_up (h.same k) (Nat.le_trans hn k.size)) i1 i2 (by unfold maxLen; simp) (by unfold maxLen; simp)
  refine c.mono ?_
  rintro e w' ⟨v, rfl, hr, hk⟩
  have a := aw6_o
  rw [show ((99 : Nat) : Int) = 99 from rfl, a.2] at hr
  rw [show ((99 : Nat) : Int) = 99 from rfl, a.1]
  exact ⟨v, rfl, row_mono hr (Nat.zero_le _), k.trans' hk⟩
theorem aw6_uni {n b : Nat} {w : World} (h : Sg n w b L3) (hn : n ≤ w.heap.size) {T T' : TypeId} :
    Calls Try.prog 11 #[.pointer (some ⟨b, 0, none⟩), .slice (some ⟨w.heap.size, 0, none⟩) 3 3, .slice (some ⟨w.heap.size + 1, 0, none⟩) 4 4] ((w.alloc (.cells #[.int .i64 2, .int .i64 (-1), .int .i64 0] T)).alloc (.cells #[.int .i64 2, .int .i64 1, .int .i64 (-1), .int .i64 (-2)] T')) fun e w' => (∃ v, e = .returned (.tuple #[v, .int .i64 60])) ∧ Same0 w w' := by
  obtain ⟨i1, i2, k⟩ := ints_pair w [2, -1, 0] [2, 1, -1, -2] T T' rfl rfl
  have c := unify_any (xc := 3) (yc := 4) (sg_up (h.same k) (Nat.le_trans hn k.size)) i1 i2 (by unfold maxLen; simp) (by unfold maxLen; simp)
  refine c.mono ?_
  rintro e w' ⟨v, rfl, hr, hk⟩
  have a := aw6_u
  rw [show ((0 : Nat) : Int) = 0 from rfl, a.1]
  exact ⟨⟨v, rfl⟩, k.trans' hk⟩
theorem aw6_cla {n b : Nat} {w : World} (h : Sg n w b L3) (hn : n ≤ w.heap.size) {T T' : TypeId} :
    Calls Try.prog 17 #[.pointer (some ⟨b, 0, none⟩), .slice (some ⟨w.heap.size, 0, none⟩) 2 2, .slice (some ⟨w.heap.size + 1, 0, none⟩) 1 1] ((w.alloc (.cells #[.int .i64 1, .int .i64 (-1)] T)).alloc (.cells #[.int .i64 0] T')) fun e w' => e = .returned (.tuple #[.bool true, .int .i64 0]) ∧ Same0 w w' := by
  obtain ⟨i1, i2, k⟩ := ints_pair w [1, -1] [0] T T' rfl rfl
  have c := clash_any (xc := 2) (yc := 1) (sg_up (h.same k) (Nat.le_trans hn k.size)) i1 i2 (by unfold maxLen; simp) (by unfold maxLen; simp)
  rw [aw6_c.1, aw6_c.2] at c
  refine c.mono ?_
  rintro e w' ⟨rfl, hk⟩
  exact ⟨rfl, k.trans' hk⟩
theorem aw6_ts {w : World} {ao : Option Addr} {cap : Nat} {T : TypeId} (h : IntsAt w ao [2, 1, -1, 0]) : Calls Try.prog 13 #[.slice ao 4 cap, .slice (some ⟨w.heap.size, 0, none⟩) 4 4] (w.alloc (.cells #[.int .i64 2, .int .i64 1, .int .i64 (-1), .int .i64 0] T)) fun e w' => e = .returned (.bool true) ∧ Same0 w w' := by
  have k : Same0 w (w.alloc (.cells #[.int .i64 2, .int .i64 1, .int .i64 (-1), .int .i64 0] T)) := (Kept.refl _ w).alloc _
  have c := same_any (acap := cap) (bcap := 4) (h.same k) (ints_new w [2, 1, -1, 0] T rfl) (by decide)
  refine c.mono ?_
  rintro e w' ⟨rfl, hk⟩
  exact ⟨rfl, k.trans' hk⟩
set_option maxHeartbeats 4000000 in
theorem awake6_any (w : World) : Calls Try.prog 9 #[] w fun e w' => e = .returned (.bool true) ∧ Same0 w w' := by
  go_enter Try.func9, Try.ntmps9
  go_wp2_with fail
  refine (made_any _ _ _ _ _ (syms_awake w) (by decide)).mono ?_
  rintro e w1 ⟨b, rv, rfl, hsg, _, hk⟩
  rw [madeL_awake] at hsg
  obtain ⟨n, hn⟩ : ∃ n, n = w1.heap.size := ⟨_, rfl⟩
  rw [← hn] at hsg
  have hn1 : n ≤ w1.heap.size := by omega
  have K1 : Same0 w w1 := Same0.new hk
  obtain ⟨ro, rc, rfl⟩ : ∃ ro rc, rv = .slice ro 3 rc := by
    rename_i hrl
    exact row_shape hrl.1
  clear hk hn
  go_wp2_with fail
  refine (aw6_over hsg hn1).mono ?_
  rintro e w2 ⟨v2, rfl, hr2, hk2⟩
  obtain ⟨ao2, ac2, rfl, hi2, _, _⟩ := hr2.ints
  have hsg2 := hsg.same hk2
  have hn2 : n ≤ w2.heap.size := Nat.le_trans hn1 hk2.size
  have K2 := K1.trans' hk2
  clear hr2 hsg hk2 K1 hn1
  go_wp2_with fail
  refine (aw6_uni hsg2 hn2).mono ?_
  rintro e w3 ⟨⟨v3, rfl⟩, hk3⟩
  have hsg3 := hsg2.same hk3
  have hn3 : n ≤ w3.heap.size := Nat.le_trans hn2 hk3.size
  have K3 := K2.trans' hk3
  have hi3 := hi2.same hk3
  clear hsg2 hk3 K2 hi2 hn2
  go_wp2_with fail
  refine (aw6_cla hsg3 hn3).mono ?_
  rintro e w4 ⟨rfl, hk4⟩
  have K4 := K3.trans' hk4
  have hi4 := hi3.same hk4
  clear hsg3 hk4 K3 hi3 hn3
  go_wp2_with fail
  refine (aw6_ts hi4).mono ?_
  rintro e w5 ⟨rfl, hk5⟩
  have K5 := K4.trans' hk5
  clear hk5 K4 hi4
  go_wp2
  go_ret
  exact ⟨rfl, K5⟩
end Go.Proofs.Ythhcnllabhfejaa
/- What the walks of layer 6's statements share: the argument's cells. -/
namespace Go.Proofs.Ythhcnllabhfejaa
set_option linter.unusedVariables false
open Go.RowKit
theorem case6_cells {w w' : World} {cb : Nat} {c0 c1 c2 c3 : Value} (h : w.heap[cb]? = some (.cells #[c0, c1, c2, c3] 27 (0, 0))) (hk : Same0 w w') : w'.cell? ⟨cb, 0, none⟩ = some c0 ∧ w'.cell? ⟨cb, 1, none⟩ = some c1 ∧ w'.cell? ⟨cb, 2, none⟩ = some c2 ∧ w'.cell? ⟨cb, 3, none⟩ = some c3 := by
  have := hk.at0 h
  exact ⟨cellAt this 0, cellAt this 1, cellAt this 2, cellAt this 3⟩
theorem umaxLen {n : Nat} (h : n * 8 ≤ 140737488351232) : n ≤ maxLen := by unfold maxLen; omega
end Go.Proofs.Ythhcnllabhfejaa
/- The walks of trail's path, of Path and Depth of package term. -/
namespace Go.Proofs.Ythhcnllabhfejaa
set_option linter.unusedVariables false
open Go.RowKit
attribute [local go_sem ↓] Go.wp_at_zero Go.wp_at_succ
def firsts (st : List (Nat × Nat)) : List Int := ofN (st.reverse.map Prod.fst)
theorem firsts_length (st : List (Nat × Nat)) : (firsts st).length = st.length := by simp [firsts, ofN]
theorem firsts_take {st : List (Nat × Nat)} {k : Nat} (h : k < st.length) : (firsts st).take (k + 1) = (firsts st).take k ++ [((st.reverse[k]'(by simpa using h)).1 : Int)] := by
  rw [List.take_add_one, List.getElem?_eq_getElem (by rw [firsts_length]; exact h)]
  simp [firsts, ofN]
theorem way_length (L : List Sym) (t : List Int) (k : Nat) (hk : k ≤ t.length) : (way L t k).length ≤ k := by
  induction k with
  | zero => simp [way, run]
  | succ k ih =>
    rw [way_succ (by omega)]
    have := pass_length (way L t k) (arN L (t[k]'(by omega)))
    have := ih (by omega)
    omega
def pathA (L : List Sym) (t : List Int) (a : Int) : List Int := if placeE L t a = 0 then firsts (way L t a.toNat) else []
/-- How deep the first k places stand. -/
def deepN (L : List Sym) (t : List Int) : Nat → Nat
  | 0 => 0
  | k + 1 => max (deepN L t k) ((way L t k).length + 1)
def depthA (L : List Sym) (t : List Int) : Int := if checkE L t = 0 then (deepN L t t.length : Int) else 0
theorem deepN_le (L : List Sym) (t : List Int) (k : Nat) (hk : k ≤ t.length) : deepN L t k ≤ k := by
  induction k with
  | zero => simp [deepN]
  | succ k ih =>
    have := way_length L t k (by omega)
    have := ih (by omega)
    simp [deepN]; omega
end Go.Proofs.Ythhcnllabhfejaa
/- The walk of the document's Path. -/
namespace Go.Proofs.Ythhcnllabhfejaa
set_option linter.unusedVariables false
open Go.RowKit
attribute [local go_sem ↓] Go.wp_at_zero Go.wp_at_succ
/-- What the inner loop of Path holds, when k arguments were looked at. -/
structure Sought (w wr : World) (ov : Value) (ao : Option Addr) (args : List Int) (out : List Int) : Prop where
  row : Row w.heap.size wr ov out
  at' : IntsAt wr ao args
  ne : ∀ a, ao = some a → ov.ownBlock ≠ some a.block
  lt : ∀ a, ao = some a → a.block < wr.heap.size
  s : Same0 w wr
theorem Sought.push {w wr w' : World} {ov : Value} {ao : Option Addr} {args out : List Int} {g cap : Nat} {x : Int} (h : Sought w wr ov ao args out) (hr : Row w.heap.size w' (.slice (some ⟨g, 0, none⟩) (out.length + 1) cap) (out ++ [x])) (hk : Kept (fun k => ov.ownBlock = some k) wr w') (hat : ov.ownBlock = some g ∨ wr.heap.size ≤ g) :
    Sought w w' (.slice (some ⟨g, 0, none⟩) (out.length + 1) cap) ao args (out ++ [x]) := by
  refine ⟨hr, h.at'.kept hk (fun a e => h.ne a e), ?_, fun a e => Nat.lt_of_lt_of_le (h.lt a e) hk.size, h.s.onto h.row hk⟩
  intro a e e'
  simp only [Value.ownBlock, Option.some.injEq] at e'
  rcases hat with e1 | e1
  · exact h.ne a e (by rw [e1, e'])
  · have := h.lt a e; omega
theorem firsts_cons (i a : Nat) (st : List (Nat × Nat)) : firsts ((i, a) :: st) = firsts st ++ [(i : Int)] := by simp [firsts, ofN]
end Go.Proofs.Ythhcnllabhfejaa
/- The walk of the document's Plain. -/
namespace Go.Proofs.Ythhcnllabhfejaa
set_option linter.unusedVariables false
open Go.RowKit
attribute [local go_sem ↓] Go.wp_at_zero Go.wp_at_succ
def negs (t : List Int) : List Int := (varsL t).map (fun v => -v)
theorem allV_snoc {ls : List (List Int)} {i : Nat} (hi : i < ls.length) : allV (ls.take (i + 1)) = allV (ls.take i) ++ negs ls[i] := by
  unfold allV
  rw [take_one hi, List.map_append, List.flatten_append]
  simp [negs]
theorem allV_le {ls : List (List Int)} (hn : ls.length ≤ 1048576) (h : ∀ t ∈ ls, t.length ≤ 1048576) (i : Nat) : (allV (ls.take i)).length ≤ 1100000000000 := by
  have h1 := flat_le (ls := (ls.take i).map negs) (B := 1048576) (fun t ht => by
    obtain ⟨x, hx, rfl⟩ := List.mem_map.1 ht
    have h1 := vs_len [] x
    have h2 := h x (List.mem_of_mem_take hx)
    simp [negs, varsL] at h1 ⊢; omega)
  have e : allV (ls.take i) = ((ls.take i).map negs).flatten := rfl
  rw [e]
  have h2 : ((ls.take i).map negs).length ≤ 1048576 := by simp; omega
  have h3 : ((ls.take i).map negs).length * 1048576 ≤ 1048576 * 1048576 := Nat.mul_le_mul_right _ h2
  omega
/-- Lists told: their blocks lie from base on. -/
def OutAt (base : Nat) (w : World) (ov : Value) (xss : List (List Int)) : Prop := ∃ cs, w.ownsRow base 25 1 ov xss.length cs ∧ ∀ j (h : j < xss.length), ∃ v, cs[j]? = some v ∧ Row base w v xss[j] ∧ ∀ k, v.ownBlock = some k → ov.ownBlock ≠ some k
theorem OutAt.same {base : Nat} {w w' : World} {ov : Value} {xss : List (List Int)} (h : OutAt base w ov xss) (k : Same0 w w') : OutAt base w' ov xss := by
  obtain ⟨cs, h1, h2⟩ := h
  refine ⟨cs, Kept.row k h1 (fun _ _ f => f), fun j hj => ?_⟩
  obtain ⟨v, g1, g2, g3⟩ := h2 j hj
  exact ⟨v, g1, Kept.row k g2 (fun _ _ f => f), g3⟩
theorem OutAt.nil (base : Nat) (w : World) : OutAt base w (.slice none 0 0) [] := ⟨[], World.ownsRow_nil _ _ _ _, fun j hj => by simp at hj⟩
theorem OutAt.keep {base : Nat} {w w' : World} {ov : Value} {xss : List (List Int)} {S : Nat → Prop} (h : OutAt base w ov xss) (k : Kept S w w') (hn : ∀ k, base ≤ k → ¬ S k) : OutAt base w' ov xss := by
  obtain ⟨cs, h1, h2⟩ := h
  refine ⟨cs, k.row h1 (fun k e => hn k (h1.lt k e).1), fun j hj => ?_⟩
  obtain ⟨v, g1, g2, g3⟩ := h2 j hj
  exact ⟨v, g1, k.row g2 (fun k e => hn k (g2.lt k e).1), g3⟩
theorem OutAt.put {base : Nat} {w0 w1 : World} {ov v : Value} {xss : List (List Int)} {t : List Int} {g cap : Nat} {cs : List Value} (h1 : w0.ownsRow base 25 1 ov xss.length cs) (h2 : ∀ j (h : j < xss.length), ∃ v, cs[j]? = some v ∧ Row base w0 v xss[j] ∧ ∀ k, v.ownBlock = some k → ov.ownBlock ≠ some k) (hr : Row base w0 v t) (hv : ∀ k, v.ownBlock = some k → ov.ownBlock ≠ some k)
    (hown : w1.ownsRow base 25 1 (.slice (some ⟨g, 0, none⟩) (xss.length + 1) cap) (xss.length + 1) (cs ++ [v])) (hk : Kept (fun k => ov.ownBlock = some k) w0 w1) (hat : ov.ownBlock = some g ∨ w0.heap.size ≤ g) : OutAt base w1 (.slice (some ⟨g, 0, none⟩) (xss.length + 1) cap) (xss ++ [t]) := by
  have hl : cs.length = xss.length := by have := h1.1; omega
  have new : ∀ u : Value, (∀ k, u.ownBlock = some k → ov.ownBlock ≠ some k) → (∀ k, u.ownBlock = some k → k < w0.heap.size) → ∀ k, u.ownBlock = some k → Value.ownBlock (.slice (some ⟨g, 0, none⟩) (xss.length + 1) cap) ≠ some k := by
    intro u a1 a2 k e e'
    simp only [Value.ownBlock, Option.some.injEq] at e'
    subst e'
    rcases hat with e2 | e2
    · exact a1 g e e2
    · have := a2 g e; omega
  refine ⟨cs ++ [v], by simpa using hown, fun j hj => ?_⟩
  by_cases e : j = xss.length
  · subst e
    refine ⟨v, by rw [List.getElem?_append_right (by omega)]; simp [hl], ?_, new v hv (fun k e => (hr.lt k e).2)⟩
    simpa using hk.row hr (fun k e e' => hv k e e')
  · have hj' : j < xss.length := by simp at hj; omega
    obtain ⟨u, g1, g2, g3⟩ := h2 j hj'
    refine ⟨u, by rw [List.getElem?_append_left (by omega)]; exact g1, ?_, new u g3 (fun k e => (g2.lt k e).2)⟩
    rw [List.getElem_append_left hj']
    exact hk.row g2 (fun k e e' => g3 k e e')
/-- The order, in plain words, at the inmost loop. -/
theorem order_hit {ls : List (List Int)} {x : Int} {m : Nat} (hm : m < (orderL ls).length) : (x = -((orderL ls)[m])) ↔ (isV x = true ∧ (orderL ls).idxOf (-x) = m) := by
  have hN := neat_vs neat_nil ls.flatten
  have hN' : Neat (orderL ls) := hN
  constructor
  · intro e
    have h1 := hN'.2 _ (List.getElem_mem hm)
    have e2 : -x = (orderL ls)[m] := by omega
    exact ⟨isV_iff.2 (by omega), by rw [e2]; exact idx_of hN'.1 hm⟩
  · rintro ⟨h1, h2⟩
    have h3 : (orderL ls).idxOf (-x) < (orderL ls).length := by omega
    have h4 := List.getElem_idxOf h3
    have : (orderL ls)[m] = -x := by
      have e5 : (orderL ls)[m] = (orderL ls)[(orderL ls).idxOf (-x)] := by congr 1; exact h2.symm
      rw [e5]; exact h4
    omega
/-- The number at a place, when m of the order were looked at. -/
def halfN (O : List Int) (x : Int) (m : Nat) : Int := if isV x = true ∧ O.idxOf (-x) < m then -((O.idxOf (-x) : Int) + 1) else x
theorem half_zero (O : List Int) (x : Int) : halfN O x 0 = x := by simp [halfN]
theorem half_hit {ls : List (List Int)} {x : Int} {m : Nat} (hm : m < (orderL ls).length) (h : x = -((orderL ls)[m])) : halfN (orderL ls) x (m + 1) = -((m : Int) + 1) := by
  obtain ⟨h1, h2⟩ := (order_hit hm).1 h
  rw [halfN, if_pos ⟨h1, by omega⟩, h2]
theorem half_miss {ls : List (List Int)} {x : Int} {m : Nat} (hm : m < (orderL ls).length) (h : ¬ x = -((orderL ls)[m])) : halfN (orderL ls) x (m + 1) = halfN (orderL ls) x m := by
  have h' := fun a => h ((order_hit hm).2 a)
  unfold halfN
  by_cases hv : isV x = true
  · have : (orderL ls).idxOf (-x) ≠ m := fun e => h' ⟨hv, e⟩
    by_cases c : (orderL ls).idxOf (-x) < m
    · rw [if_pos ⟨hv, by omega⟩, if_pos ⟨hv, c⟩]
    · rw [if_neg (by omega), if_neg (by omega)]
  · rw [if_neg (by simp [hv]), if_neg (by simp [hv])]
theorem half_end {ls : List (List Int)} {x : Int} {t : List Int} (ht : t ∈ ls) (hx : x ∈ t) : halfN (orderL ls) x (orderL ls).length = Proofs.Ythhcnllabhfejaa.pl (orderL ls) x := by
  unfold halfN Proofs.Ythhcnllabhfejaa.pl
  by_cases hv : isV x = true
  · have : -x ∈ orderL ls := vs_mem (List.mem_flatten.2 ⟨t, ht, hx⟩) hv
    rw [if_pos ⟨hv, List.idxOf_lt_length_of_mem this⟩, if_pos hv]
  · rw [if_neg (by simp [hv]), if_neg hv]
/-- append of numbers, nil or not, to a row of the call's own. -/
theorem wpList_more' {w0 : World} {ops : Array Oper} {rest : List Oper} {o : Oper} {a : Act} {Q : Exit → Act → World → Prop} (hgd : o.guard = none) (s x : Operand) (t : TypeId)
    (ho : o.op = .call { callee := .builtin .append, args := #[s, x], argTypes := #[t, t] }) (ht : Try.prog.underlying t = some (.slice 3))
    (base : Nat) (xs : List Int) (v : Value) (hs : a.eval s = v) (hr : Row base w0 v xs) (ys : List Int) (ao : Option Addr) (m c : Nat) (hx : a.eval x = .slice ao m c) (hm : m = ys.length) (hy : IntsAt w0 ao ys) (hnil : ao = none → ys.length = 0 ∧ c = 0) (hb : base ≤ w0.heap.size) (hsz : (xs.length + ys.length) * 8 ≤ 140737488355328)
    (h : ∀ v' w', Row base w' v' (xs ++ ys) → Kept (fun k => v.ownBlock = some k) w0 w' → wpList Try.prog ops Q rest (a.put o.dst v') w') :
    wpList Try.prog ops Q (o :: rest) a w0 := by
  cases ao with
  | none =>
    obtain ⟨h1, rfl⟩ := hnil rfl
    have : ys = [] := List.eq_nil_of_length_eq_zero h1
    subst this
    subst hm
    obtain ⟨i, hi, hz0, hz1, hz2⟩ := info_parts info_intT
    exact wpList_append_own_none hgd s x t ho base 3 i 1 ht hi v xs.length (iv xs) hs hr hx (h v w0 (by simpa using hr) (Kept.refl _ _))
  | some ad => exact wpList_more hgd s x t ho ht base xs v hs hr ys ad m c hx hm hy hb hsz h
set_option maxRecDepth 8000 in
set_option maxHeartbeats 8000000 in
theorem rplain_any {w : World} {lo : Option Addr} {lcap : Nat} {ls : List (List Int)} (hl : Lists w lo ls) (hn : ls.length ≤ 1048576) (hb : ∀ t ∈ ls, t.length ≤ 1048576) :
    Calls Try.prog 19 #[.slice lo ls.length lcap] w fun e w' => ∃ v, e = .returned v ∧ OutAt w.heap.size w' v (plains ls) ∧ Same0 w w' := by
  have HB : Hid (∀ t ∈ ls, t.length ≤ 1048576) := hb
  have HAL : Hid (∀ i, (allV (ls.take i)).length ≤ 1100000000000) := fun i => allV_le hn hb i
  clear hb
  go_enter Try.func19, Try.ntmps19
  go_wp2
  go_loopw [3, 4] (fun av iv' wr => ∃ i : Nat, i ≤ ls.length ∧ iv' = .int .i64 (i : Int) ∧ Row w.heap.size wr av (allV (ls.take i)) ∧ Same0 w wr) (fun _ iv' _ => ls.length - (intOf iv').toNat)
  case atStart => exact ⟨0, Nat.zero_le _, rfl, World.ownsRow_nil _ _ _ _, Kept.refl _ _⟩
  case round =>
    obtain ⟨i, hile, rfl, hr, hs⟩ := hrel
    obtain ⟨avo, avc, rfl⟩ := row_shape hr
    by_cases hlt : i < ls.length
    · obtain ⟨lb, loff, ao, cap, rfl, hlb, hlc, hia, hnil⟩ := (hl.same hs).get hlt
      have hti := HB.out ls[i] (List.getElem_mem hlt)
      have cV := rvars_any (cap := cap) hia (by omega)
      have E : Hid (allV (ls.take (i + 1)) = allV (ls.take i) ++ negs ls[i]) := allV_snoc hlt
      have hal := HAL.out i
      have hal1 := HAL.out (i + 1)
      rw [E.out, List.length_append] at hal1
      have HNT : Hid (Neat (varsL ls[i])) := neat_vs neat_nil ls[i]
      have hngl : (negs ls[i]).length = (varsL ls[i]).length := by simp [negs]
      have HNG : Hid (∀ k (hk : k < (varsL ls[i]).length), (negs ls[i]).take (k + 1) = (negs ls[i]).take k ++ [-((varsL ls[i])[k])]) := fun k hk => by
        rw [take_one (by rw [hngl]; exact hk)]; simp [negs]
      have i1 : (0 : Int) ≤ (i : Int) := by omega
      have i2 : (i : Int) < (ls.length : Int) := by omega
      clear hia hnil
      go_wp2_with fail
      refine cV.mono ?_
      rintro e w2 ⟨vv, rfl, rvv, k2⟩
      obtain ⟨vo, vcap, rfl, ivv, _, hvb⟩ := rvv.ints
      have S0 : Sought w w2 (.slice avo (allV (ls.take i)).length avc) vo (varsL ls[i]) (allV (ls.take i)) := by
        refine ⟨Kept.row k2 hr (fun _ _ f => f), ivv, ?_, fun a e => (hvb a e).2, hs.trans' k2⟩
        intro a e e'
        have := (hr.lt _ e').2
        have := (hvb a e).1
        omega
      clear cV rvv ivv hvb hr k2
      generalize hAI : allV (ls.take i) = AI at *
      generalize hVI : varsL ls[i] = VI at *
      generalize hNI : negs ls[i] = NI at *
      go_wp2
      obtain ⟨wo, rfl⟩ : ∃ wo : World, wo = wr := ⟨_, rfl⟩
      go_loopw [3, 6] (fun av kv wr => ∃ k : Nat, k ≤ VI.length ∧ kv = .int .i64 (k : Int) ∧ Sought w wr av vo VI (AI ++ NI.take k)) (fun _ kv _ => VI.length - (intOf kv).toNat)
      case atStart => exact ⟨0, Nat.zero_le _, rfl, by simpa using S0⟩
      case round =>
        clear S0
        obtain ⟨k, hkle, rfl, hS⟩ := hrel
        obtain ⟨bvo, bvc, rfl⟩ := row_shape hS.row
        by_cases hkl : k < VI.length
        · obtain ⟨vb, voff, rfl, _, hvc⟩ := hS.at'.get hkl
          have hnt := HNT.out.2 VI[k] (List.getElem_mem hkl)
          have E2 := HNG.out k hkl
          have hrow := hS.row
          have hss := hS.s.size
          have hll : (AI ++ NI.take k).length ≤ 1100000000000 := by simp; omega
          have hb8 : ((AI ++ NI.take k).length + 1) * 8 ≤ 140737488355328 := by omega
          have E3 : Hid (AI ++ NI.take (k + 1) = (AI ++ NI.take k) ++ [-VI[k]]) := by show _ = _; rw [E2, List.append_assoc]
          have m0 : (0 : Int) ≤ (k : Int) := by omega
          have m1 : (k : Int) < (VI.length : Int) := by omega
          clear E2
          generalize hZZ : AI ++ NI.take k = ZZ at *
          generalize VI[k] = x at *
          go_wp2_with (first | (at_builtin; refine wpList_push rfl _ _ 25 rfl Try.underlying25 w.heap.size ZZ (.slice bvo ZZ.length bvc) rfl hrow (-x) rfl hss hb8 ?_; intro g gcap w4 hr4 hk4 hat4; have hS4 := hS.push hr4 hk4 hat4))
          rw [← E3.out] at hS4
          go_roundw
          case rel => first | exact ⟨k + 1, by omega, by go_num, hS4⟩ | ((repeat apply Exists.intro); exact ⟨⟨k + 1, by omega, by go_num, hS4⟩, rfl⟩)
          case measure => simp [intOf]; omega
        · have hrw := hS.row
          have hss := hS.s
          have e0 : NI.take k = NI := List.take_of_length_le (by omega)
          rw [e0] at hrw ⊢
          have E4 := E.out
          rw [← E4] at hrw ⊢
          clear hS e0 E4
          go_wp2
          go_roundw
          case rel => first | exact ⟨i + 1, by omega, by go_num, hrw, hss⟩ | ((repeat apply Exists.intro); exact ⟨⟨i + 1, by omega, by go_num, hrw, hss⟩, rfl⟩)
          case measure => simp [intOf]; omega
    · obtain rfl : i = ls.length := by omega
      rw [List.take_length] at hr ⊢
      have hal := HAL.out ls.length
      rw [List.take_length] at hal
      obtain ⟨avo', avc', hvv, iav, _, _⟩ := hr.ints
      simp only [Value.slice.injEq, true_and] at hvv
      obtain ⟨rfl, rfl⟩ := hvv
      have cO := rvars_any (cap := avc) iav (by omega)
      rw [order_all] at cO
      clear iav hr HAL
      go_wp2_with fail
      refine cO.mono ?_
      rintro e w5 ⟨ov, rfl, rO, k5⟩
      obtain ⟨oo, ocap, rfl, iO, _, _⟩ := rO.ints
      have hs5 := hs.trans' k5
      clear cO rO k5
      obtain ⟨O, hO⟩ : ∃ O, O = orderL ls := ⟨_, rfl⟩
      have HO : Hid (O = orderL ls) := hO
      have hOl : O.length ≤ 1100000000000 := by
        have h1 := vs_len [] ls.flatten
        have h2 := flat_le (ls := ls) (B := 1048576) HB.out
        have h3 : ls.length * 1048576 ≤ 1048576 * 1048576 := Nat.mul_le_mul_right _ hn
        rw [hO]; unfold orderL; simp only [List.length_nil, Nat.zero_add] at h1; omega
      rw [← hO] at iO ⊢
      clear hO
      go_wp2
      go_loopw [8, 9] (fun ov iv' wr => ∃ i : Nat, i ≤ ls.length ∧ iv' = .int .i64 (i : Int) ∧ OutAt w5.heap.size wr ov ((plains ls).take i) ∧ Same0 w5 wr) (fun _ iv' _ => ls.length - (intOf iv').toNat)
      case atStart => exact ⟨0, Nat.zero_le _, rfl, by simpa using OutAt.nil _ _, Kept.refl _ _⟩
      case round =>
        rename World => wold
        obtain ⟨i, hile, rfl, hOA, hs6⟩ := hrel
        rename World => wr0
        have hs06 := hs5.trans' hs6
        by_cases hlt2 : i < ls.length
        · obtain ⟨lb, loff, ao, cap, rfl, hlb, hlc, hia, hnil⟩ := (hl.same hs06).get hlt2
          have hti := HB.out ls[i] (List.getElem_mem hlt2)
          have hdl : ((plains ls).take i).length = i := by rw [List.length_take, plains_length]; omega
          have hur : ∃ uo ucap, u8 = .slice uo i ucap := by
            obtain ⟨cs, h1, _⟩ := hOA
            rw [hdl] at h1
            exact row_shape h1
          obtain ⟨uo, ucap, rfl⟩ := hur
          have HGET : Hid ((plains ls).take (i + 1) = (plains ls).take i ++ [curL O ls[i] ls[i].length]) := by rw [HO.out]; exact plains_get hlt2
          have HEND : Hid (∀ x ∈ ls[i], halfN O x O.length = pl O x) := fun x hx => by rw [HO.out]; exact half_end (List.getElem_mem hlt2) hx
          have HHIT : Hid (∀ x m (hm : m < O.length), x = -(O[m]) → halfN O x (m + 1) = -((m : Int) + 1)) := by rw [HO.out]; exact fun x m hm h => half_hit hm h
          have HMISS : Hid (∀ x m (hm : m < O.length), ¬ x = -(O[m]) → halfN O x (m + 1) = halfN O x m) := by rw [HO.out]; exact fun x m hm h => half_miss hm h
          have k0 : Same0 wr0 (wr0.alloc (.cells #[] 3)) := (Kept.refl _ _).alloc _
          have r0 : Row wr0.heap.size (wr0.alloc (.cells #[] 3)) (.slice (some ⟨wr0.heap.size, 0, none⟩) 0 0) [] := row_empty wr0 _ (Nat.le_refl _) rfl
          have ia0 := hia.same k0
          have z0 := k0.size
          have i1 : (0 : Int) ≤ (i : Int) := by omega
          have i2 : (i : Int) < (ls.length : Int) := by omega
          generalize (plains ls).take i = done at *
          generalize hT : ls[i] = t at *
          go_upto_region 16 with (first | (at_builtin; refine wpList_more' rfl (.tmp 46) (.tmp 50) 25 rfl Try.underlying25 wr0.heap.size [] _ rfl r0 t _ _ _ rfl rfl ia0 hnil z0 (by simp; omega) ?_; intro v1 w1 hr1 hk1))
          rw [List.nil_append] at hr1
          have s1 := k0.onto r0 hk1
          obtain ⟨to', tcap, rfl⟩ := row_shape hr1
          rw [show t = curL O t 0 by rw [curL_zero]] at hr1
          rw [curL_length O t 0 (Nat.zero_le _)] at hr1
          have HNO : Hid (Neat O) := by rw [HO.out]; exact neat_vs neat_nil ls.flatten
          have HIO : Hid (∀ wr, Same0 wr0 wr → IntsAt wr oo O) := fun wr k => (iO.same hs6).same k
          have HIA : Hid (∀ wr, Same0 wr0 wr → IntsAt wr ao t ∧ wr.cell? ⟨lb, loff + i, none⟩ = some (.slice ao t.length cap)) := fun wr k => ⟨hia.same k, (k.cell (p := ⟨lb, loff + i, none⟩) hlb (fun f => f)).trans hlc⟩
          clear r0 ia0 hk1 z0 k0
          go_wp2
          go_loopw [11] (fun kv wr => ∃ k : Nat, k ≤ t.length ∧ kv = .int .i64 (k : Int) ∧ Row wr0.heap.size wr (.slice to' t.length tcap) (curL O t k) ∧ Same0 wr0 wr) (fun kv _ => t.length - (intOf kv).toNat)
          case atStart => exact ⟨0, Nat.zero_le _, rfl, by unfold Row; rw [curL_length O t 0 (Nat.zero_le _)]; exact hr1, s1⟩
          case round =>
            clear hr1 s1
            obtain ⟨k, hkle, rfl, hrk, hsk⟩ := hrel
            rename World => wk
            have cl := curL_length O t k hkle
            by_cases hkl : k < t.length
            · have CG := curL_get (O := O) hkl
              have CN : Hid ((curL O t k).set k (pl O t[k]) = curL O t (k + 1)) := curL_next hkl
              have C0 : Hid ((curL O t k).set k (halfN O t[k] 0) = curL O t k) := by show _ = _; rw [half_zero, ← CG]; exact List.set_getElem_self _
              have hend := HEND.out t[k] (List.getElem_mem hkl)
              have CE : Hid ((curL O t k).set k (halfN O t[k] O.length) = curL O t (k + 1)) := by show _ = _; rw [hend]; exact CN.out
              have R0 : Row wr0.heap.size wk (.slice to' t.length tcap) ((curL O t k).set k (halfN O t[k] 0)) := by rw [C0.out]; exact hrk
              have j1 : (0 : Int) ≤ (k : Int) := by omega
              have j2 : (k : Int) < (t.length : Int) := by omega
              clear hrk CG hend CN C0
              generalize hC : curL O t k = C at *
              go_wp2
              go_loopw [12] (fun nv wr => ∃ m : Nat, m ≤ O.length ∧ nv = .int .i64 (m : Int) ∧ Row wr0.heap.size wr (.slice to' t.length tcap) (C.set k (halfN O t[k] m)) ∧ Same0 wr0 wr) (fun nv _ => O.length - (intOf nv).toNat)
              case atStart => exact ⟨0, Nat.zero_le _, rfl, R0, hsk⟩
              case round =>
                clear R0
                obtain ⟨m, hmle, rfl, hrm, hsm⟩ := hrel
                rename World => wm
                by_cases hml : m < O.length
                · obtain ⟨ob, ooff, rfl, _, hoc⟩ := (HIO.out wm hsm).get hml
                  obtain ⟨hiam, hlcm⟩ := HIA.out wm hsm
                  obtain ⟨ab, aoff, rfl, _, hac⟩ := hiam.get hkl
                  have hno := HNO.out.2 O[m] (List.getElem_mem hml)
                  have hhit := HHIT.out t[k] m hml
                  have hmiss := HMISS.out t[k] m hml
                  have n1 : (0 : Int) ≤ (m : Int) := by omega
                  have n2 : (m : Int) < (O.length : Int) := by omega
                  have hl2 : ∀ y, (C.set k y).length = t.length := fun y => by rw [List.length_set]; exact cl
                  have hrm' := hrm
                  unfold Row at hrm'
                  rw [hl2] at hrm'
                  obtain ⟨tb, tc', hv', htb, htl⟩ := hrm'.form (by omega)
                  simp only [Value.slice.injEq, true_and] at hv'
                  obtain ⟨rfl, rfl⟩ := hv'
                  by_cases hq : t[k] = -O[m]
                  · have e1 := hhit hq
                    obtain ⟨old, y1, y2⟩ := row_put hrm' hkl
                    have hst := (hrm'.stored k (.int .i64 (-((m : Int) + 1)))).1
                    have e2 : (iv (C.set k (halfN O t[k] m))).set k (.int .i64 (-((m : Int) + 1))) = iv (C.set k (halfN O t[k] (m + 1))) := by
                      rw [e1]; simp [iv, List.map_set]
                    rw [e2] at hst
                    have hstR : Row wr0.heap.size (wm.setCell ⟨tb, k, none⟩ (.int .i64 (-((m : Int) + 1)))) (.slice (some ⟨tb, 0, none⟩) t.length tcap) (C.set k (halfN O t[k] (m + 1))) := by unfold Row; rw [hl2]; exact hst
                    have hsS : Same0 wr0 (wm.setCell ⟨tb, k, none⟩ (.int .i64 (-((m : Int) + 1)))) := hsm.own htb _
                    have hqb : (t[k] == -O[m]) = true := by rw [beq_iff_eq]; exact hq
                    clear hhit hmiss e1 e2 hst hrm hrm' hl2 hiam
                    generalize O[m] = om at *
                    generalize t[k] = x at *
                    go_wp2
                    go_quiet (fail)
                    go_wp2
                    have hRd := Kept.row ((Kept.refl _ _).drewN nq : Same0 _ _) hstR (fun _ _ f => f)
                    have hSd := hsS.drewN nq
                    go_roundw
                    case rel => first | exact ⟨m + 1, by omega, by go_num, hRd, hSd⟩ | ((repeat apply Exists.intro); exact ⟨⟨m + 1, by omega, by go_num, hRd, hSd⟩, rfl⟩)
                    case measure => simp [intOf]; omega
                  · have e1 := hmiss hq
                    rw [← e1] at hrm
                    have hqb : (t[k] == -O[m]) = false := by simpa using hq
                    clear hhit hmiss e1 hrm' hl2 hiam
                    generalize hZ : C.set k (halfN O t[k] (m + 1)) = Z at *
                    generalize O[m] = om at *
                    generalize t[k] = x at *
                    go_wp2
                    go_quiet (fail)
                    go_wp2
                    have hRd := Kept.row ((Kept.refl _ _).drewN nq : Same0 _ _) hrm (fun _ _ f => f)
                    have hSd := hsm.drewN nq
                    rw [← hZ] at hRd
                    go_roundw
                    case rel => first | exact ⟨m + 1, by omega, by go_num, hRd, hSd⟩ | ((repeat apply Exists.intro); exact ⟨⟨m + 1, by omega, by go_num, hRd, hSd⟩, rfl⟩)
                    case measure => simp [intOf]; omega
                · obtain rfl : m = O.length := by omega
                  rw [CE.out] at hrm
                  go_wp2
                  go_roundw
                  case rel => first | exact ⟨k + 1, by omega, by go_num, hrm, hsm⟩ | ((repeat apply Exists.intro); exact ⟨⟨k + 1, by omega, by go_num, hrm, hsm⟩, rfl⟩)
                  case measure => simp [intOf]; omega
            · obtain rfl : k = t.length := by omega
              obtain ⟨cs, h1, h2⟩ := hOA.same hsk
              have zz := hs6.size
              have zk := hsk.size
              have hub : ∀ k, Value.ownBlock (.slice uo i ucap) = some k → k < wr0.heap.size := fun k e => by obtain ⟨cs', g1, _⟩ := hOA; exact (g1.lt k e).2
              have htb : ∀ k, Value.ownBlock (.slice to' t.length tcap) = some k → Value.ownBlock (.slice uo i ucap) ≠ some k := fun k e e' => by have := (hrk.lt k e).1; have := hub k e'; omega
              have hrB : Row w5.heap.size wk (.slice to' t.length tcap) (curL O t t.length) := row_mono hrk zz
              obtain ⟨j0, hj0, hz0, hz1, hz2⟩ := info_parts info_term
              rw [hdl] at h1
              have b1 : i + 1 ≤ maxLen := by unfold maxLen; omega
              have b2 : (i + 1) * 24 ≤ 140737488355328 := by omega
              have b3 : w5.heap.size ≤ (wk.alloc (.cells #[.slice to' t.length tcap] 25)).heap.size := by simp; omega
              clear HIO HIA HEND HHIT HMISS
              go_wp2_with (first | (at_builtin; refine wpList_append_lies _ rfl (.tmp 83) (.tmp 85) 44 rfl w5.heap.size 25 j0 _ 1 24 Try.underlying44 hj0 hz0 hz1 hz2 rfl (by omega) (.slice uo i ucap) i cs rfl (h1.alloc _) ⟨wk.heap.size, 0, none⟩ 1 1 [.slice to' t.length tcap] rfl rfl (cell_one_new _ _ _) (by simp [Value.oneCell']) (by omega) b1 b2 b3 (wk.heap.size + 1) (by simp) ?_; intro gg gcap w9 hown hgrow hat hglt))
              have kk : Kept (fun k => Value.ownBlock (.slice uo i ucap) = some k) wk w9 := Kept.grown (Kept.alloc (Kept.refl _ wk) _) hgrow (fun _ e _ => e)
              have hOut : OutAt w5.heap.size w9 (.slice (some ⟨gg, 0, none⟩) (done.length + 1) gcap) (done ++ [curL O t t.length]) := OutAt.put (by rw [hdl]; exact h1) h2 hrB htb (by rw [hdl]; exact hown) kk (hat.imp id (fun e => by omega))
              rw [hdl, ← HGET.out] at hOut
              have hs9 : Same0 w5 w9 := Kept.trans (hs6.trans' hsk) kk (fun j hj e => by obtain ⟨cs', g1, _⟩ := hOA; have := (g1.lt j e).1; omega)
              go_roundw
              case rel => first | exact ⟨i + 1, by omega, by go_num, hOut, hs9⟩ | ((repeat apply Exists.intro); exact ⟨⟨i + 1, by omega, by go_num, hOut, hs9⟩, rfl⟩)
              case measure => simp [intOf]; omega
        · obtain rfl : i = ls.length := by omega
          rw [List.take_of_length_le (by rw [plains_length]; exact Nat.le_refl _)] at hOA
          have hfin : OutAt w.heap.size wr0 u8 (plains ls) := by
            obtain ⟨cs, h1, h2⟩ := hOA
            refine ⟨cs, row_mono h1 hs5.size, fun j hj => ?_⟩
            obtain ⟨v, g1, g2, g3⟩ := h2 j hj
            exact ⟨v, g1, row_mono g2 hs5.size, g3⟩
          obtain ⟨cs, h1, _⟩ := hOA
          obtain ⟨uo, ucap, rfl⟩ := row_shape h1
          go_wp2
          go_ret
          exact ⟨_, rfl, hfin, hs06⟩
end Go.Proofs.Ythhcnllabhfejaa
/- The walk of the statement UnifySelf. -/
namespace Go.Proofs.Ythhcnllabhfejaa
set_option maxRecDepth 100000
set_option linter.unusedVariables false
open Go.RowKit
attribute [local go_sem ↓] Go.wp_at_zero Go.wp_at_succ
/-- The document's Plain of one list. -/
theorem rplain_one {ww : World} {B : Nat} {ao : Option Addr} {cap : Nat} {a : List Int} (hB : ww.heap[B]? = some (.cells #[.slice ao a.length cap] 25 (0, 0))) (ha : IntsAt ww ao a) (hn : ao = none → a.length = 0 ∧ cap = 0) (hm : a.length ≤ 1048576) :
    Calls Try.prog 19 #[.slice (some ⟨B, 0, none⟩) 1 1] ww fun e w' => ∃ g xo oc xc, e = .returned (.slice (some ⟨g, 0, none⟩) 1 oc) ∧ w'.cell? ⟨g, 0, none⟩ = some (.slice xo (upl a).length xc) ∧ g < w'.heap.size ∧ IntsAt w' xo (upl a) ∧ Same0 ww w' := by
  have hl : Lists ww (some ⟨B, 0, none⟩) [a] := by
    refine .inr ⟨_, _, rfl, lt_of_at hB, fun i hi => ?_⟩
    obtain rfl : i = 0 := by simpa using hi
    exact ⟨ao, cap, cellAt hB 0, ha, hn⟩
  refine (rplain_any (lcap := 1) hl (by simp) (fun t ht => by simp at ht; subst ht; omega)).mono ?_
  rintro e w' ⟨v, rfl, hP, hk⟩
  rw [plains_alone] at hP
  obtain ⟨cs, h1, h2⟩ := hP
  obtain ⟨v0, h3, h4, _⟩ := h2 0 (by simp)
  obtain ⟨xo, xc, rfl, h5, _, _⟩ := h4.ints
  obtain ⟨g, oc, rfl, hg1, hg2⟩ := World.ownsRow.form h1 (by simp)
  exact ⟨g, xo, oc, xc, rfl, (h1.cellAt 0 (by simp)).trans h3, hg2, h5, hk⟩
set_option maxHeartbeats 4000000 in
theorem self_walk (v : Value) (w : World) {lo : Option Addr} {ll lc : Nat} {ls : List Sym} {ao : Option Addr} {ac : Nat} {a : List Int} {bo : Option Addr} {bc : Nat} {b' : List Int} {so : Option Addr} {tc : Nat} {t : List Int} (hc : Case6Is w v lo ll lc ls ao ac a bo bc b' so tc t) :
    Calls Try.prog 8 #[v] w fun e w' => e = .returned (.bool true) ∧ Below w.heap.size w w' := by
  obtain ⟨rfl, hsy, hsl, ha, hb, ht⟩ := hc
  obtain ⟨wb, hwb⟩ : ∃ wb, wb = w.alloc (.cells #[.slice lo ll lc, .slice ao a.length ac, .slice bo b'.length bc, .slice so t.length tc] 27) := ⟨_, rfl⟩
  have kb : Same0 w wb := by rw [hwb]; exact (Kept.refl _ w).alloc _
  have hbox : wb.heap[w.heap.size]? = some (.cells #[.slice lo ll lc, .slice ao a.length ac, .slice bo b'.length bc, .slice so t.length tc] 27 (0, 0)) := by rw [hwb]; exact heap_alloc_new w _
  go_enter Try.func8, Try.ntmps8
  go_wp2_with fail
  rw [← hwb]
  generalize hcb : w.heap.size = cb at *
  clear hwb
  refine (awake6_any _).mono ?_
  rintro e w1 ⟨rfl, k1⟩
  obtain ⟨d0, _, _, _⟩ := case6_cells hbox k1
  go_wp2_with fail
  refine (made_any lo ll lc ls w1 (hsy.kept (kb.trans' k1).below) hsl).mono ?_
  rintro e w2 ⟨b, rv, rfl, hsg, hrl, k2⟩
  obtain ⟨L0, hL0⟩ : ∃ L0, L0 = madeL ls := ⟨_, rfl⟩
  rw [← hL0] at hsg hrl
  clear hL0 d0
  have K2 := k1.trans' k2
  have KW := kb.trans' K2
  obtain ⟨ro, rc, rfl⟩ := row_shape hrl.1
  obtain ⟨d0, d1, d2, d3⟩ := case6_cells hbox K2
  have cU := unify_any (xc := ac) (yc := ac) hsg (ha.at'.same KW) (ha.at'.same KW) (umaxLen ha.size) (umaxLen ha.size)
  have CR : Hid (∀ w3, Same0 w2 w3 → (w3.cell? ⟨cb, 1, none⟩ = some (.slice ao a.length ac) ∧ IntsAt w3 ao a) ∧ Calls Try.prog 20 #[.slice ro L0.length rc, .slice ao a.length ac] w3 fun e w' => e = .returned (.int .i64 (checkE L0 a)) ∧ w' = w3) := fun w3 hk =>
    ⟨⟨(case6_cells hbox (K2.trans' hk)).2.1, ha.at'.same (KW.trans' hk)⟩, rcheck_any (cap := ac) (hrl.same hk) (ha.at'.same (KW.trans' hk)) (umaxLen ha.size)⟩
  have FIN : Hid (∀ w', Same0 w2 w' → Below w.heap.size w w') := fun w' hk => (KW.trans' hk).below

  have hnil := ha.nil
  clear hsg hrl hsy K2 k1 k2 kb KW ht hb hbox ha
  by_cases hz : checkE L0 a = 0
  · obtain ⟨x1, x2, x3⟩ := checkE_zero.1 hz
    obtain ⟨e1, e2⟩ := self_com hz
    have e3 : comT L0 a a 0 = upl a := by rw [e2, wrF_upl (fun x hx => (badE_zero.1 x2 x hx).2)]
    have cU2 : Calls Try.prog 11 #[.pointer (some ⟨b, 0, none⟩), .slice ao a.length ac, .slice ao a.length ac] w2 fun e w' => ∃ to' tc', e = .returned (.tuple #[.slice to' (upl a).length tc', .int .i64 0]) ∧ IntsAt w' to' (upl a) ∧ Same0 w2 w' := by
      refine cU.mono ?_
      rintro e w' ⟨v, rfl, hr, hk⟩
      rw [show ((0 : Nat) : Int) = 0 from rfl, e3] at hr
      rw [show ((0 : Nat) : Int) = 0 from rfl, e1]
      obtain ⟨to', tc', rfl, hi, _, _⟩ := hr.ints
      exact ⟨to', tc', rfl, hi, hk⟩
    have hul : (upl a).length ≤ maxLen := by unfold maxLen; simp [upl]; omega
    clear cU e1 e2 e3
    go_upto_region 6 with (first | (go_at_call 11; refine cU2.mono ?_; rintro e w3 ⟨to', tc', rfl, hi3, hk3⟩))
    obtain ⟨⟨f1, f2⟩, cR⟩ := CR.out w3 hk3
    rw [hz] at cR
    have CP : Hid (∀ w5 g xo xc, w5.cell? ⟨g, 0, none⟩ = some (.slice xo (upl a).length xc) → IntsAt w5 xo (upl a) → Same0 w3 w5 → Calls Try.prog 13 #[.slice to' (upl a).length tc', .slice xo (upl a).length xc] w5 fun e w' => e = .returned (.bool true) ∧ Same0 w5 w') := by
      intro w5 g xo xc _ hi hk
      refine (same_any (acap := tc') (bcap := xc) (hi3.same hk) hi hul).mono ?_
      rintro e w' ⟨rfl, hk'⟩
      exact ⟨by simp [sameB], hk'⟩
    have cP := rplain_one (ww := w3.alloc (.cells #[.slice ao a.length ac] 25)) (B := w3.heap.size) (cap := ac) (heap_alloc_new w3 _) (f2.same ((Kept.refl _ w3).alloc _)) hnil (by omega)
    clear CR
    go_wp2_with (first | (go_at_call 20; refine cR.mono ?_; rintro e w' ⟨rfl, rfl⟩) | (go_at_call 19; refine cP.mono ?_; rintro e w5 ⟨g, xo, oc, xc, rfl, p1, p2, p3, p4⟩; have cS := CP.out w5 g xo xc p1 p3 (Same0.new p4)) | (go_at_call 13; refine cS.mono ?_; rintro e w6 ⟨rfl, hk6⟩))
    go_ret
    exact ⟨rfl, FIN.out _ ((hk3.trans' (Same0.new p4)).trans' hk6)⟩
  · have e1 : comE L0 a a 0 = checkE L0 a := by unfold comE; rw [if_pos hz]
    have e2 : comT L0 a a 0 = [] := by unfold comT; rw [if_neg (by rw [e1]; exact hz)]
    have cU2 : Calls Try.prog 11 #[.pointer (some ⟨b, 0, none⟩), .slice ao a.length ac, .slice ao a.length ac] w2 fun e w' => ∃ to' tc', e = .returned (.tuple #[.slice to' 0 tc', .int .i64 (checkE L0 a)]) ∧ Same0 w2 w' := by
      refine cU.mono ?_
      rintro e w' ⟨v, rfl, hr, hk⟩
      rw [show ((0 : Nat) : Int) = 0 from rfl, e2] at hr
      rw [show ((0 : Nat) : Int) = 0 from rfl, e1]
      obtain ⟨to', tc', rfl, hi, _, _⟩ := hr.ints
      exact ⟨to', tc', rfl, hk⟩
    have hz' : (checkE L0 a == 0) = false := by simpa using hz
    clear cU e1 e2
    go_upto_region 6 with (first | (go_at_call 11; refine cU2.mono ?_; rintro e w3 ⟨to', tc', rfl, hk3⟩))
    obtain ⟨⟨f1, f2⟩, cR⟩ := CR.out w3 hk3
    clear CR cU2
    generalize checkE L0 a = E at *
    go_wp2_with (first | (go_at_call 20; refine cR.mono ?_; rintro e w' ⟨rfl, rfl⟩))
    go_ret
    exact ⟨by simp, FIN.out _ hk3⟩
end Go.Proofs.Ythhcnllabhfejaa
