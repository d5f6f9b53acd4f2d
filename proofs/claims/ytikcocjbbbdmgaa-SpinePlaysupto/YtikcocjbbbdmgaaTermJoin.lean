/- The walks of join, Sub and Put of package term. -/
import Derived.Test.YtikcocjbbbdmgaaTermArgs
import Derived.Laws.CopyOwn
namespace Go.Proofs.Ytikcocjbbbdmgaa
set_option maxRecDepth 100000
set_option linter.unusedVariables false
open Go.RowKit
attribute [local go_sem ↓] Go.wp_at_zero Go.wp_at_succ
/-- A part that is laid behind another. -/
structure Part where
  ao : Option Addr
  cap : Nat
  xs : List Int
def PartsAt (w : World) (pb : Nat) (ps : List Part) : Prop := pb < w.heap.size ∧ ∀ i (h : i < ps.length), w.cell? ⟨pb, i, none⟩ = some (.slice ps[i].ao ps[i].xs.length ps[i].cap) ∧ IntsAt w ps[i].ao ps[i].xs
def allOf (ps : List Part) : List Int := ps.flatMap Part.xs
theorem PartsAt.same {w w' : World} {pb : Nat} {ps : List Part} (h : PartsAt w pb ps) (hk : Same0 w w') : PartsAt w' pb ps :=
  ⟨Nat.lt_of_lt_of_le h.1 hk.size, fun i hi => ⟨(hk.cell (p := ⟨pb, i, none⟩) h.1 (fun f => f)).trans (h.2 i hi).1, (h.2 i hi).2.same hk⟩⟩
theorem allOf_snoc {ps : List Part} {k : Nat} (h : k < ps.length) : allOf (ps.take (k + 1)) = allOf (ps.take k) ++ ps[k].xs := by
  simp only [allOf]; rw [List.take_add_one, List.getElem?_eq_getElem h, List.flatMap_append]; simp
theorem allOf_le (ps : List Part) (k : Nat) : (allOf (ps.take k)).length ≤ (allOf ps).length := by
  have e : allOf ps = allOf (ps.take k) ++ allOf (ps.drop k) := by rw [allOf, allOf, allOf, ← List.flatMap_append, List.take_append_drop]
  rw [e]; simp
theorem Same0.of {w w' : World} (h : Below w.heap.size w w') : Same0 w w' := ⟨h.os, h.tape, h.output, h.size, fun k hk _ => h.block k hk⟩
/-- What lies in the row that join fills, when m numbers are laid. -/
def Joins (g N m : Nat) (xs : List Int) (w wr : World) : Prop := ∃ cur : List Value, wr.heap[g]? = some (.cells cur.toArray 3 (0, 0)) ∧ cur.length = N ∧ cur.take m = iv xs ∧ xs.length = m ∧ Same0 w wr
theorem Joins.start {g N : Nat} {v : Value} {ys : List Value} {w wr : World} (hv : v = .slice (some ⟨g, 0, none⟩) N N) (h : wr.ownsRow w.heap.size 3 1 v N ys) (hs : Same0 w wr) : Joins g N 0 [] w wr := by
  rcases h.2 with ⟨e, _⟩ | ⟨g', cap, cur, e, hb, hg, _, _, hsz, _⟩
  · rw [hv] at e; cases e
  · rw [hv] at e
    simp only [Value.slice.injEq, Option.some.injEq, Addr.mk.injEq, and_true, true_and] at e
    obtain ⟨rfl, rfl⟩ := e
    exact ⟨cur.toList, by simpa using hg, by simpa using hsz, by simp [iv], rfl, hs⟩
theorem splice_take {α : Type} (cur cs : List α) (m : Nat) (h : m + cs.length ≤ cur.length) : (splice cur m cs).take (m + cs.length) = cur.take m ++ cs := by
  unfold splice
  rw [← List.append_assoc, List.take_left' (by simp; omega)]
theorem Joins.next {g N m : Nat} {xs zs : List Int} {cur : List Value} {w w' : World} (h1 : cur.length = N) (h2 : cur.take m = iv xs) (h3 : xs.length = m) (hm : m + zs.length ≤ N)
    (hg : w'.heap[g]? = some (.cells (splice cur m (iv zs)).toArray 3 (0, 0))) (hb : Below w.heap.size w w') : Joins g N (m + zs.length) (xs ++ zs) w w' := by
  refine ⟨_, hg, ?_, ?_, by simp; omega, Same0.of hb⟩
  · rw [length_splice _ _ _ (by rw [iv_length]; omega)]; exact h1
  · have := splice_take cur (iv zs) m (by rw [iv_length]; omega)
    rw [iv_length] at this
    rw [this, h2, iv_append]
theorem Joins.row {g N : Nat} {xs : List Int} {w wr : World} (h : Joins g N N xs w wr) (hg : w.heap.size ≤ g) (hN : N ≤ maxLen) : Row w.heap.size wr (.slice (some ⟨g, 0, none⟩) N N) xs := by
  obtain ⟨cur, h1, h2, h3, h4, _⟩ := h
  subst h4
  exact ⟨by simp [iv], .inr ⟨g, xs.length, cur.toArray, rfl, hg, h1, Nat.le_refl _, hN, by simpa using h2, by simpa using h3⟩⟩
theorem iv_oneCell (xs : List Int) : ∀ v ∈ iv xs, v.oneCell' = true := by
  intro v hv
  simp only [iv, List.mem_map] at hv
  obtain ⟨x, _, rfl⟩ := hv
  rfl
theorem IntsAt.src {w : World} {ao : Option Addr} {xs : List Int} (h : IntsAt w ao xs) (hn : 0 < (iv xs).length) : ∃ ad, ao = some ad ∧ ∀ j v, (iv xs)[j]? = some v → w.cell? (ad.add j) = some v := by
  rcases h with rfl | ⟨b, off, rfl, _, hc⟩
  · simp [iv] at hn
  · refine ⟨_, rfl, fun j v hj => ?_⟩
    have hlt : j < xs.length := by
      have := (List.getElem?_eq_some_iff.1 hj).1
      rwa [iv_length] at this
    rw [iv_get hlt] at hj
    cases hj
    have := hc j hlt
    unfold Addr.add
    split
    · rename_i h0; subst h0; first | (simp; done) | (simpa using this)
    · exact this
theorem iv_min {m N d : Nat} {xs : List Int} (h : m + xs.length ≤ N) (hd : d = N - m) : (iv xs).length = Nat.min xs.length d := by rw [iv_length]; exact (Nat.min_eq_left (by omega)).symm
theorem size_int : (Try.prog.info? 3).map (·.size) = some 1 := by kernel_rfl
theorem IntsAt.cut {w : World} {b off : Nat} {t : List Int} (h : IntsAt w (some ⟨b, off, none⟩) t) (lo hi : Nat) : IntsAt w (some ⟨b, off + lo, none⟩) ((t.take hi).drop lo) := by
  rcases h with rfl | ⟨b', off', e, hlt, hc⟩
  · left; simp
  · simp only [Option.some.injEq, Addr.mk.injEq, and_true] at e
    obtain ⟨rfl, rfl⟩ := e
    refine .inr ⟨b, off + lo, rfl, hlt, fun i hi' => ?_⟩
    have h1 : lo + i < t.length := by simp at hi'; omega
    have := hc (lo + i) h1
    rw [Nat.add_assoc, this]
    simp
theorem IntsAt.nil (w : World) (ao : Option Addr) : IntsAt w ao [] := .inl rfl
theorem parts_one {w : World} {ao : Option Addr} {cap m : Nat} {xs : List Int} {T : TypeId} (h : IntsAt w ao xs) (hm : m = xs.length) : PartsAt (w.alloc (.cells #[.slice ao m cap] T)) w.heap.size [⟨ao, cap, xs⟩] := by
  subst hm
  refine ⟨by simp, fun i hi => ?_⟩
  obtain rfl : i = 0 := by simpa using hi
  exact ⟨cellAt (heap_alloc_new w _) 0, h.same ((Kept.refl _ w).alloc _)⟩
theorem parts_three {w : World} {a0 a1 a2 : Option Addr} {c0 c1 c2 m0 m1 m2 : Nat} {x0 x1 x2 : List Int} {T : TypeId} (h0 : IntsAt w a0 x0) (h1 : IntsAt w a1 x1) (h2 : IntsAt w a2 x2) (e0 : m0 = x0.length) (e1 : m1 = x1.length) (e2 : m2 = x2.length) :
    PartsAt (w.alloc (.cells #[.slice a0 m0 c0, .slice a1 m1 c1, .slice a2 m2 c2] T)) w.heap.size [⟨a0, c0, x0⟩, ⟨a1, c1, x1⟩, ⟨a2, c2, x2⟩] := by
  subst e0 e1 e2
  have k : Same0 w (w.alloc (.cells #[.slice a0 x0.length c0, .slice a1 x1.length c1, .slice a2 x2.length c2] T)) := (Kept.refl _ w).alloc _
  refine ⟨by simp, fun i hi => ?_⟩
  have hi' : i < 3 := by simpa using hi
  match i, hi' with
  | 0, _ => exact ⟨cellAt (heap_alloc_new w _) 0, h0.same k⟩
  | 1, _ => exact ⟨cellAt (heap_alloc_new w _) 1, h1.same k⟩
  | 2, _ => exact ⟨cellAt (heap_alloc_new w _) 2, h2.same k⟩
def subA (L : List Sym) (t : List Int) (a : Int) : List Int := if placeE L t a = 0 then subN L t a.toNat else []
def putE (L : List Sym) (t : List Int) (a : Int) (u : List Int) : Int := if placeE L t a ≠ 0 then placeE L t a else if checkE L u ≠ 0 then checkE L u else if 2000 < (putN L t a.toNat u).length then 20 else 0
def putA (L : List Sym) (t : List Int) (a : Int) (u : List Int) : List Int := if putE L t a u = 0 then putN L t a.toNat u else []
end Go.Proofs.Ytikcocjbbbdmgaa
