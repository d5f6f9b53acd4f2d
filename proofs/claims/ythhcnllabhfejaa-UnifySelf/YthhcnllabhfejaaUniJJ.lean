/- A joint of package unify while it is laid. -/
import Derived.Test.YthhcnllabhfejaaUniMem
import Derived.Test.YthhcnllabhfejaaTermArgs
import Derived.Test.YthhcnllabhfejaaSigAtW
import Derived.Laws.Tables
namespace Go.Proofs.Ythhcnllabhfejaa
set_option maxRecDepth 100000
set_option linter.unusedVariables false
open Go.RowKit
theorem zeros_joint : Try.zeroCells99 = #[.slice none 0 0, .slice none 0 0] ++ Array.replicate 199 (.int .i64 0) ++ #[.slice none 0 0, .slice none 0 0] := by kernel_rfl
structure ZOk (Z : Array Value) : Prop where
  size : Z.size = 203
  var : ∀ v, 1 ≤ v → v < 199 → Z[2 + v]? = some (.int .i64 0)
theorem zok_joint : ZOk Try.zeroCells99 := by
  rw [zeros_joint]
  refine ⟨by simp, fun v h1 h2 => ?_⟩
  rw [Array.getElem?_append_left (by simp; omega), Array.getElem?_append_right (by simp), Array.getElem?_eq_getElem (by simp; omega)]
  simp
def JZ (Z : Array Value) (l e s z : Value) : Array Value := (((Z.setIfInBounds 0 l).setIfInBounds 1 e).setIfInBounds 201 s).setIfInBounds 202 z
theorem JZ_size {Z : Array Value} (hZ : ZOk Z) (l e s z : Value) : (JZ Z l e s z).size = 203 := by simp [JZ, hZ.size]
theorem JZ_0 {Z : Array Value} (hZ : ZOk Z) (l e s z : Value) : (JZ Z l e s z)[0]? = some l := by
  have := JZ_size hZ l e s z
  simp only [JZ, Array.size_setIfInBounds] at this
  simp only [JZ]
  rw [Array.getElem?_setIfInBounds, if_neg (by omega), Array.getElem?_setIfInBounds, if_neg (by omega), Array.getElem?_setIfInBounds, if_neg (by omega), Array.getElem?_setIfInBounds, if_pos rfl, if_pos (by omega)]
theorem JZ_1 {Z : Array Value} (hZ : ZOk Z) (l e s z : Value) : (JZ Z l e s z)[1]? = some e := by
  have := JZ_size hZ l e s z
  simp only [JZ, Array.size_setIfInBounds] at this
  simp only [JZ]
  rw [Array.getElem?_setIfInBounds, if_neg (by omega), Array.getElem?_setIfInBounds, if_neg (by omega), Array.getElem?_setIfInBounds, if_pos rfl, if_pos (by simp; omega)]
theorem JZ_201 {Z : Array Value} (hZ : ZOk Z) (l e s z : Value) : (JZ Z l e s z)[201]? = some s := by
  have := JZ_size hZ l e s z
  simp only [JZ, Array.size_setIfInBounds] at this
  simp only [JZ]
  rw [Array.getElem?_setIfInBounds, if_neg (by omega), Array.getElem?_setIfInBounds, if_pos rfl, if_pos (by simp; omega)]
theorem JZ_202 {Z : Array Value} (hZ : ZOk Z) (l e s z : Value) : (JZ Z l e s z)[202]? = some z := by
  have := JZ_size hZ l e s z
  simp only [JZ, Array.size_setIfInBounds] at this
  simp only [JZ]
  rw [Array.getElem?_setIfInBounds, if_pos rfl, if_pos (by simp; omega)]
theorem JZ_v {Z : Array Value} (hZ : ZOk Z) (l e s z : Value) {v : Nat} (h1 : 1 ≤ v) (h2 : v < 199) : (JZ Z l e s z)[2 + v]? = some (.int .i64 0) := by
  simp only [JZ]
  rw [Array.getElem?_setIfInBounds, if_neg (by omega), Array.getElem?_setIfInBounds, if_neg (by omega), Array.getElem?_setIfInBounds, if_neg (by omega), Array.getElem?_setIfInBounds, if_neg (by omega)]
  exact hZ.var v h1 h2
theorem info_intS : (Try.prog.info? 3).map (fun i => (i.zero, i.size, i.bytes)) = some (some (.int .i64 0), 1, 8) := by kernel_rfl
/-- The zero cells of a row. -/
theorem umade_zero (n i : Nat) (h : i < n) : (madeCells #[Value.int .i64 0] n)[i]? = some (.int .i64 0) := by
  simp [madeCells, h, Nat.mod_one]
theorem at_ar {n b : Nat} {w : World} {L : List Sym} (h : Sg n w b L) (x : Int) : Calls Try.prog 62 #[.pointer (some ⟨b, 0, none⟩), .int .i64 x] w fun e w' => ∃ s d c, e = .returned (.tuple #[.agg #[.string s, .int .i64 ((arN L x : Nat) : Int), .bool d], .int .i64 c]) ∧ Same0 w w' := by
  obtain ⟨⟨sv, mr, h1, _⟩, ha⟩ := h
  by_cases hx : x < 0 ∨ (L.length : Int) ≤ x
  · refine (at_no h1 x hx).mono ?_
    rintro e w' ⟨rfl, hk⟩
    exact ⟨_, _, _, by rw [ar_no hx]; rfl, hk⟩
  · obtain ⟨i, rfl⟩ : ∃ i : Nat, x = (i : Int) := ⟨x.toNat, by omega⟩
    have hi : i < L.length := by omega
    refine (at_yes h1 i hi).mono ?_
    rintro e w' ⟨rfl, hk⟩
    exact ⟨_, _, _, by rw [ar_of ha hi], hk⟩
/-- While a joint is laid. -/
structure JJ (w0 : World) (B : JB) (w : World) (xs : List Int) (M : Nat) (nx : Int → Int) (en sa : Nat → Int) : Prop where
  head : Head w B xs.length M nx
  row : w.ownsRow w0.heap.size 3 1 (.slice (some ⟨B.lb, 0, none⟩) xs.length M) xs.length (iv xs)
  cap : B.lcap = M
  ends : Nums w B.eb M en
  same : Nums w B.sb M sa
  sizes : Nums w B.zb M (fun _ => 0)
  ap : B.Apart
  ap2 : B.eb ≠ B.lb
  new : ∀ k, B.Foot k → w0.heap.size ≤ k
  kept : Same0 w0 w
theorem JJ.same0 {w0 : World} {B : JB} {w w' : World} {xs : List Int} {M : Nat} {nx : Int → Int} {en sa : Nat → Int} (h : JJ w0 B w xs M nx en sa) (hk : Same0 w w') : JJ w0 B w' xs M nx en sa :=
  ⟨h.head.kept hk (fun f => f), hk.row h.row (fun _ _ f => f), h.cap, h.ends.kept hk (fun f => f), h.same.kept hk (fun f => f), h.sizes.kept hk (fun f => f), h.ap, h.ap2, h.new, h.kept.trans' hk⟩
theorem Head.set0 {w : World} {B : JB} {N M : Nat} {nx : Int → Int} (h : Head w B N M nx) (N' : Nat) : Head (w.setCell ⟨B.jb, 0, none⟩ (.slice (some ⟨B.lb, 0, none⟩) N' B.lcap)) B N' M nx := by
  obtain ⟨cs, g1, g2, g3, g4, g5, g6, g7⟩ := h
  refine ⟨_, setAt g1 _ _, by simpa using g2, ?_, ?_, ?_, ?_, ?_⟩
  · rw [Array.getElem?_setIfInBounds, if_pos rfl, if_pos (by omega)]
  · rw [Array.getElem?_setIfInBounds, if_neg (by omega)]; exact g4
  · intro k hk1 hk2
    rw [Array.getElem?_setIfInBounds, if_neg (by omega)]; exact g5 k hk1 hk2
  · rw [Array.getElem?_setIfInBounds, if_neg (by omega)]; exact g6
  · rw [Array.getElem?_setIfInBounds, if_neg (by omega)]; exact g7
theorem Head.setNo {w : World} {B : JB} {N M : Nat} {nx : Int → Int} (h : Head w B N M nx) (x : Value) : Head (w.setCell ⟨B.jb, 2, none⟩ x) B N M nx := by
  obtain ⟨cs, g1, g2, g3, g4, g5, g6, g7⟩ := h
  refine ⟨_, setAt g1 _ _, by simpa using g2, ?_, ?_, ?_, ?_, ?_⟩
  · rw [Array.getElem?_setIfInBounds, if_neg (by omega)]; exact g3
  · rw [Array.getElem?_setIfInBounds, if_neg (by omega)]; exact g4
  · intro k hk1 hk2
    rw [Array.getElem?_setIfInBounds, if_neg (by omega)]; exact g5 k hk1 hk2
  · rw [Array.getElem?_setIfInBounds, if_neg (by omega)]; exact g6
  · rw [Array.getElem?_setIfInBounds, if_neg (by omega)]; exact g7
theorem head_new {Z : Array Value} (hZ : ZOk Z) (w : World) (B : JB) (M : Nat) (hj : B.jb = w.heap.size) (hc : B.lcap = M) : Head (w.alloc (.cells (JZ Z (.slice (some ⟨B.lb, 0, none⟩) 0 M) (.slice (some ⟨B.eb, 0, none⟩) M M) (.slice (some ⟨B.sb, 0, none⟩) M M) (.slice (some ⟨B.zb, 0, none⟩) M M)) 99)) B 0 M (fun _ => 0) := by
  refine ⟨_, by rw [hj]; exact heap_alloc_new _ _, JZ_size hZ _ _ _ _, ?_, ?_, ?_, ?_, ?_⟩
  · rw [hc]; exact JZ_0 hZ _ _ _ _
  · exact JZ_1 hZ _ _ _ _
  · exact fun v h1 h2 => JZ_v hZ _ _ _ _ h1 h2
  · exact JZ_201 hZ _ _ _ _
  · exact JZ_202 hZ _ _ _ _
/-- More behind the list. -/
theorem JJ.grow {w0 : World} {B : JB} {w w1 : World} {xs ys : List Int} {M : Nat} {nx : Int → Int} {en sa : Nat → Int} (h : JJ w0 B w xs M nx en sa) (hk : Kept (fun k => k = B.lb) w w1) (hr : w1.ownsRow w0.heap.size 3 1 (.slice (some ⟨B.lb, 0, none⟩) (xs ++ ys).length M) (xs ++ ys).length (iv (xs ++ ys))) : JJ w0 B (w1.setCell ⟨B.jb, 0, none⟩ (.slice (some ⟨B.lb, 0, none⟩) (xs ++ ys).length M)) (xs ++ ys) M nx en sa := by
  have hk2 : Kept (fun k => k = B.jb) w1 (w1.setCell ⟨B.jb, 0, none⟩ (.slice (some ⟨B.lb, 0, none⟩) (xs ++ ys).length M)) := Kept.setCell (S := fun k => k = B.jb) (p := ⟨B.jb, 0, none⟩) (Kept.refl _ _) (fun _ => rfl) _
  have ap := h.ap
  have hh := (h.head.kept hk ap.a1).set0 (xs ++ ys).length
  rw [h.cap] at hh
  refine ⟨hh, hk2.row hr (fun k e f => by simp [Value.ownBlock] at e; exact ap.a1 (by omega)), h.cap, (h.ends.kept hk h.ap2).kept hk2 (fun e => ap.a2 e.symm), (h.same.kept hk ap.a5).kept hk2 (fun e => ap.a3 e.symm), (h.sizes.kept hk ap.a8).kept hk2 (fun e => ap.a4 e.symm), ap, h.ap2, h.new, ?_⟩
  have k1 : Same0 w0 w1 := h.kept.trans hk (fun i hi e => by have := h.new B.lb (.inr (.inl rfl)); omega)
  exact k1.trans hk2 (fun i hi e => by have := h.new B.jb (.inl rfl); omega)
theorem JJ.stand {w0 : World} {B : JB} {w : World} {xs : List Int} {M : Nat} {nx : Int → Int} {en sa : Nat → Int} (h : JJ w0 B w xs M nx en sa) {v : Nat} (hv : v < 199) (x : Int) : JJ w0 B (w.setCell ⟨B.jb, 2 + v, none⟩ (.int .i64 x)) xs M (fun y => if y = -(v : Int) then x else nx y) en sa := by
  have hk2 : Kept (fun k => k = B.jb) w (w.setCell ⟨B.jb, 2 + v, none⟩ (.int .i64 x)) := Kept.setCell (S := fun k => k = B.jb) (p := ⟨B.jb, 2 + v, none⟩) (Kept.refl _ _) (fun _ => rfl) _
  have ap := h.ap
  have hh : Head (w.setCell ⟨B.jb, 2 + v, none⟩ (.int .i64 x)) B xs.length M (fun y => if y = -(v : Int) then x else nx y) := by
    by_cases h0 : v = 0
    · subst h0
      exact (h.head.setNo _).congr (fun u h1 h2 => by rw [if_neg (by omega)])
    · exact h.head.set (by omega) hv x
  exact ⟨hh, hk2.row h.row (fun k e f => by simp [Value.ownBlock] at e; exact ap.a1 (by omega)), h.cap, h.ends.kept hk2 (fun e => ap.a2 e.symm), h.same.kept hk2 (fun e => ap.a3 e.symm), h.sizes.kept hk2 (fun e => ap.a4 e.symm), ap, h.ap2, h.new, h.kept.trans hk2 (fun i hi e => by have := h.new B.jb (.inl rfl); omega)⟩
theorem JJ.setSame {w0 : World} {B : JB} {w : World} {xs : List Int} {M : Nat} {nx : Int → Int} {en sa : Nat → Int} (h : JJ w0 B w xs M nx en sa) (i : Nat) (x : Int) : JJ w0 B (w.setCell ⟨B.sb, i, none⟩ (.int .i64 x)) xs M nx en (fun k => if k = i then x else sa k) := by
  have hk2 : Kept (fun k => k = B.sb) w (w.setCell ⟨B.sb, i, none⟩ (.int .i64 x)) := Kept.setCell (S := fun k => k = B.sb) (p := ⟨B.sb, i, none⟩) (Kept.refl _ _) (fun _ => rfl) _
  have ap := h.ap
  exact ⟨h.head.kept hk2 ap.a3, hk2.row h.row (fun k e f => by simp [Value.ownBlock] at e; exact ap.a5 (by omega)), h.cap, h.ends.kept hk2 (fun e => ap.a6 e.symm), h.same.set i x, h.sizes.kept hk2 (fun e => ap.a7 e.symm), ap, h.ap2, h.new, h.kept.trans hk2 (fun i hi e => by have := h.new B.sb (.inr (.inr (.inr (.inl rfl)))); omega)⟩
theorem JJ.setEnd {w0 : World} {B : JB} {w : World} {xs : List Int} {M : Nat} {nx : Int → Int} {en sa : Nat → Int} (h : JJ w0 B w xs M nx en sa) (i : Nat) (x : Int) : JJ w0 B (w.setCell ⟨B.eb, i, none⟩ (.int .i64 x)) xs M nx (fun k => if k = i then x else en k) sa := by
  have hk2 : Kept (fun k => k = B.eb) w (w.setCell ⟨B.eb, i, none⟩ (.int .i64 x)) := Kept.setCell (S := fun k => k = B.eb) (p := ⟨B.eb, i, none⟩) (Kept.refl _ _) (fun _ => rfl) _
  have ap := h.ap
  exact ⟨h.head.kept hk2 ap.a2, hk2.row h.row (fun k e f => by simp [Value.ownBlock] at e; exact h.ap2 (by omega)), h.cap, h.ends.set i x, h.same.kept hk2 ap.a6, h.sizes.kept hk2 ap.a9, ap, h.ap2, h.new, h.kept.trans hk2 (fun i hi e => by have := h.new B.eb (.inr (.inr (.inl rfl))); omega)⟩
theorem JJ.congr {w0 : World} {B : JB} {w : World} {xs : List Int} {M : Nat} {nx ny : Int → Int} {en sa en' sa' : Nat → Int} (h : JJ w0 B w xs M nx en sa) (e1 : ∀ v : Nat, 1 ≤ v → v < 199 → nx (-(v : Int)) = ny (-(v : Int))) (e2 : ∀ i, i < M → en i = en' i) (e3 : ∀ i, i < M → sa i = sa' i) : JJ w0 B w xs M ny en' sa' :=
  ⟨h.head.congr e1, h.row, h.cap, h.ends.congr e2, h.same.congr e3, h.sizes, h.ap, h.ap2, h.new, h.kept⟩
theorem nums_new (w : World) (n : Nat) : Nums (w.alloc (.cells (madeCells #[.int .i64 0] n) 3)) w.heap.size n (fun _ => 0) :=
  ⟨_, _, heap_alloc_new _ _, by rw [size_madeCells]; exact Nat.le_refl _, fun i hi => umade_zero n i hi⟩
/-- A joint as join makes it. -/
theorem jj_new {Z : Array Value} (hZ : ZOk Z) {w0 : World} (M h p1 p2 p3 p4 : Nat) (hh : h = w0.heap.size) (hM : M ≤ maxLen) (q1 : h ≤ p1 ∧ p1 ≤ h + 3) (q2 : h ≤ p2 ∧ p2 ≤ h + 3) (q3 : h ≤ p3 ∧ p3 ≤ h + 3) (q4 : h ≤ p4 ∧ p4 ≤ h + 3) (d : p1 ≠ p2 ∧ p1 ≠ p3 ∧ p1 ≠ p4 ∧ p2 ≠ p3 ∧ p2 ≠ p4 ∧ p3 ≠ p4) (n : Nat) :
    JJ w0 ⟨h + 4, p1, p2, p3, p4, M⟩ ((((((w0.alloc (.cells (madeCells #[.int .i64 0] M) 3)).alloc (.cells (madeCells #[.int .i64 0] M) 3)).alloc (.cells (madeCells #[.int .i64 0] M) 3)).alloc (.cells (madeCells #[.int .i64 0] M) 3)).alloc (.cells (JZ Z (.slice (some ⟨p1, 0, none⟩) 0 M) (.slice (some ⟨p2, 0, none⟩) M M) (.slice (some ⟨p3, 0, none⟩) M M) (.slice (some ⟨p4, 0, none⟩) M M)) 99)).drewN n) [] M (fun _ => 0) (fun _ => 0) (fun _ => 0) := by
  subst hh
  obtain ⟨w1, e1⟩ : ∃ w1, w1 = w0.alloc (.cells (madeCells #[.int .i64 0] M) 3) := ⟨_, rfl⟩
  obtain ⟨w2, e2⟩ : ∃ w2, w2 = w1.alloc (.cells (madeCells #[.int .i64 0] M) 3) := ⟨_, rfl⟩
  obtain ⟨w3, e3⟩ : ∃ w3, w3 = w2.alloc (.cells (madeCells #[.int .i64 0] M) 3) := ⟨_, rfl⟩
  obtain ⟨w4, e4⟩ : ∃ w4, w4 = w3.alloc (.cells (madeCells #[.int .i64 0] M) 3) := ⟨_, rfl⟩
  rw [← e1, ← e2, ← e3, ← e4]
  have z1 : w1.heap.size = w0.heap.size + 1 := by rw [e1, World.size_alloc]
  have z2 : w2.heap.size = w0.heap.size + 2 := by rw [e2, World.size_alloc, z1]
  have z3 : w3.heap.size = w0.heap.size + 3 := by rw [e3, World.size_alloc, z2]
  have z4 : w4.heap.size = w0.heap.size + 4 := by rw [e4, World.size_alloc, z3]
  have k1 : Same0 w0 w1 := by rw [e1]; exact (Kept.refl _ w0).alloc _
  have k2 : Same0 w1 w2 := by rw [e2]; exact (Kept.refl _ w1).alloc _
  have k3 : Same0 w2 w3 := by rw [e3]; exact (Kept.refl _ w2).alloc _
  have k4 : Same0 w3 w4 := by rw [e4]; exact (Kept.refl _ w3).alloc _
  have b1 : w4.heap[w0.heap.size]? = some (.cells (madeCells #[.int .i64 0] M) 3 (0, 0)) := ((k2.trans' k3).trans' k4).at0 (by rw [e1]; exact heap_alloc_new _ _)
  have b2 : w4.heap[w0.heap.size + 1]? = some (.cells (madeCells #[.int .i64 0] M) 3 (0, 0)) := (k3.trans' k4).at0 (by rw [← z1, e2]; exact heap_alloc_new _ _)
  have b3 : w4.heap[w0.heap.size + 2]? = some (.cells (madeCells #[.int .i64 0] M) 3 (0, 0)) := k4.at0 (by rw [← z2, e3]; exact heap_alloc_new _ _)
  have b4 : w4.heap[w0.heap.size + 3]? = some (.cells (madeCells #[.int .i64 0] M) 3 (0, 0)) := by rw [← z3, e4]; exact heap_alloc_new _ _
  have ball : ∀ p, w0.heap.size ≤ p → p ≤ w0.heap.size + 3 → w4.heap[p]? = some (.cells (madeCells #[.int .i64 0] M) 3 (0, 0)) := by
    intro p h1 h2
    rcases (show p = w0.heap.size ∨ p = w0.heap.size + 1 ∨ p = w0.heap.size + 2 ∨ p = w0.heap.size + 3 by omega) with e | e | e | e <;> rw [e] <;> assumption
  have hd := head_new hZ w4 ⟨w0.heap.size + 4, p1, p2, p3, p4, M⟩ M z4.symm rfl
  obtain ⟨w5, e5⟩ : ∃ w5, w5 = w4.alloc (.cells (JZ Z (.slice (some ⟨p1, 0, none⟩) 0 M) (.slice (some ⟨p2, 0, none⟩) M M) (.slice (some ⟨p3, 0, none⟩) M M) (.slice (some ⟨p4, 0, none⟩) M M)) 99) := ⟨_, rfl⟩
  simp only at hd
  rw [← e5] at hd ⊢
  have k5 : Same0 w4 w5 := by rw [e5]; exact (Kept.refl _ w4).alloc _
  have K : Same0 w0 w5 := (((k1.trans' k2).trans' k3).trans' k4).trans' k5
  have ball5 : ∀ p, w0.heap.size ≤ p → p ≤ w0.heap.size + 3 → Nums w5 p M (fun _ => 0) := fun p h1 h2 => ⟨_, _, k5.at0 (ball p h1 h2), by rw [size_madeCells]; exact Nat.le_refl _, fun i hi => umade_zero M i hi⟩
  have J5 : JJ w0 ⟨w0.heap.size + 4, p1, p2, p3, p4, M⟩ w5 [] M (fun _ => 0) (fun _ => 0) (fun _ => 0) := by
    refine ⟨hd, ⟨rfl, .inr ⟨p1, M, _, rfl, q1.1, k5.at0 (ball p1 q1.1 q1.2), Nat.zero_le _, hM, by rw [size_madeCells]; omega, rfl⟩⟩, rfl, ball5 p2 q2.1 q2.2, ball5 p3 q3.1 q3.2, ball5 p4 q4.1 q4.2, ⟨?_, ?_, ?_, ?_, ?_, ?_, ?_, ?_, ?_⟩, ?_, ?_, K⟩
    all_goals try (simp only; omega)
    intro k hk
    simp only [JB.Foot] at hk
    omega
  exact J5.same0 ((Kept.refl _ w5).drewN n)
end Go.Proofs.Ythhcnllabhfejaa
