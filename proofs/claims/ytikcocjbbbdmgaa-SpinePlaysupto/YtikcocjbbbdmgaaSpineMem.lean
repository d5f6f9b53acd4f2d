/- Frames in memory: their cells, rows of them, a spine. -/
import Derived.Test.YtikcocjbbbdmgaaHeapMem
import Derived.Test.YtikcocjbbbdmgaaIntsCopied
import Derived.Deep.AppendLies
import Derived.Deep.RegionLaw
namespace Go.Proofs.Ytikcocjbbbdmgaa
set_option maxRecDepth 100000
set_option linter.unusedVariables false
open Go.RowKit
/-- A frame: its node, whether all of it is wanted, its next argument, its path. -/
abbrev Fr := Int × Bool × Int × List Int
/-- A frame's value. -/
abbrev frV (x : Fr) (ao : Option Addr) (ac : Nat) : Value := .agg #[.int .i64 x.1, .bool x.2.1, .int .i64 x.2.2.1, .slice ao x.2.2.2.length ac]
/-- Numbers in memory, in a block of numbers that is a row. -/
def ArgR (w : World) (ao : Option Addr) (xs : List Int) (cap : Nat) : Prop := ArgT w ao xs cap ∧ Row 0 w (.slice ao xs.length cap) xs
theorem ArgR.kept' {w w' : World} {ao : Option Addr} {xs : List Int} {cap : Nat} {S : Nat → Prop} (h : ArgR w ao xs cap) (hk : Kept S w w') (hS : ∀ a, ao = some a → ¬ S a.block) : ArgR w' ao xs cap :=
  ⟨h.1.kept' hk hS, hk.row h.2 (fun k e => by
    cases ao with
    | none => cases e
    | some a => have := hS a rfl; have e' : a.block = k := Option.some.inj e; rwa [e'] at this)⟩
theorem ArgR.kept {w w' : World} {ao : Option Addr} {xs : List Int} {cap : Nat} {S : Nat → Prop} (h : ArgR w ao xs cap) (hk : Kept S w w') (hS : ∀ k, S k → ∀ cur, w.heap[k]? ≠ some (.cells cur 3 (0, 0))) : ArgR w' ao xs cap :=
  h.kept' hk (fun a e s => by
    obtain ⟨cur, hc⟩ := h.1.2 a e
    exact hS _ s cur hc)
theorem ArgR.same {w w' : World} {ao : Option Addr} {xs : List Int} {cap : Nat} (h : ArgR w ao xs cap) (hk : Same0 w w') : ArgR w' ao xs cap := h.kept hk (fun _ f => f.elim)
theorem ArgR.lt {w : World} {ao : Option Addr} {xs : List Int} {cap : Nat} (h : ArgR w ao xs cap) {a : Addr} (e : ao = some a) : a.block < w.heap.size := h.1.lt e
theorem argR_none (w : World) : ArgR w none [] 0 := ⟨⟨⟨.inl rfl, Nat.le_refl _, fun _ => ⟨rfl, rfl⟩, by simp⟩, fun a e => by cases e⟩, (World.ownsRow_nil _ _ _ _ : Row 0 w (.slice none 0 0) [])⟩
theorem Row.argR {base : Nat} {w : World} {v : Value} {xs : List Int} (h : Row base w v xs) (hl : xs.length * 8 ≤ 140737488351232) : ∃ ao ac, v = .slice ao xs.length ac ∧ ArgR w ao xs ac ∧ ∀ a, ao = some a → base ≤ a.block := by
  obtain ⟨ao, ac, e, h1, h2⟩ := h.argS hl
  subst e
  exact ⟨ao, ac, rfl, ⟨h1, row_mono h (Nat.zero_le _)⟩, h2⟩
/-- The cells of frames. -/
def FCl (B : Nat → Prop) (w : World) (vs : List Value) (l : List Fr) : Prop :=
  vs.length = l.length * 4 ∧ ∀ i (h : i < l.length), ∃ ao ac, vs[i * 4]? = some (.int .i64 l[i].1) ∧ vs[i * 4 + 1]? = some (.bool l[i].2.1) ∧ vs[i * 4 + 2]? = some (.int .i64 l[i].2.2.1) ∧ vs[i * 4 + 3]? = some (.slice ao l[i].2.2.2.length ac) ∧ ArgR w ao l[i].2.2.2 ac ∧ ∀ a, ao = some a → B a.block
theorem FCl.nil (B : Nat → Prop) (w : World) : FCl B w [] [] := ⟨rfl, fun i h => absurd h (Nat.not_lt_zero _)⟩
theorem FCl.kept {B S : Nat → Prop} {w w' : World} {vs : List Value} {l : List Fr} (h : FCl B w vs l) (hk : Kept S w w') (hS : ∀ k, B k → S k → NotI w k) : FCl B w' vs l := by
  refine ⟨h.1, fun i hi => ?_⟩
  obtain ⟨ao, ac, h0, h1, h2, h3, h4, h5⟩ := h.2 i hi
  refine ⟨ao, ac, h0, h1, h2, h3, h4.kept' hk (fun a e s => ?_), h5⟩
  obtain ⟨cur, hc⟩ := h4.1.2 a e
  exact hS _ (h5 a e) s cur hc
theorem FCl.same {B : Nat → Prop} {w w' : World} {vs : List Value} {l : List Fr} (h : FCl B w vs l) (hk : Same0 w w') : FCl B w' vs l := h.kept hk (fun _ _ f => f.elim)
theorem FCl.mono {B B' : Nat → Prop} {w : World} {vs : List Value} {l : List Fr} (h : FCl B w vs l) (hB : ∀ k, k < w.heap.size → B k → B' k) : FCl B' w vs l := by
  refine ⟨h.1, fun i hi => ?_⟩
  obtain ⟨ao, ac, h0, h1, h2, h3, h4, h5⟩ := h.2 i hi
  exact ⟨ao, ac, h0, h1, h2, h3, h4, fun a e => hB _ (h4.lt e) (h5 a e)⟩
theorem FCl.snoc {B : Nat → Prop} {w : World} {vs : List Value} {l : List Fr} (h : FCl B w vs l) {x : Fr} {ao : Option Addr} {ac : Nat} (ha : ArgR w ao x.2.2.2 ac) (hb : ∀ a, ao = some a → B a.block) : FCl B w (vs ++ [.int .i64 x.1, .bool x.2.1, .int .i64 x.2.2.1, .slice ao x.2.2.2.length ac]) (l ++ [x]) := by
  refine ⟨by simp [h.1]; omega, fun i hi => ?_⟩
  by_cases e : i < l.length
  · rw [List.getElem_append_left e]
    obtain ⟨ao, ac, h0, h1, h2, h3, h4, h5⟩ := h.2 i e
    have hl := h.1
    exact ⟨ao, ac, by rw [List.getElem?_append_left (by omega)]; exact h0, by rw [List.getElem?_append_left (by omega)]; exact h1, by rw [List.getElem?_append_left (by omega)]; exact h2, by rw [List.getElem?_append_left (by omega)]; exact h3, h4, h5⟩
  · obtain rfl : i = l.length := by simp at hi; omega
    have hl := h.1
    have t : ∀ j, (vs ++ [.int .i64 x.1, .bool x.2.1, .int .i64 x.2.2.1, .slice ao x.2.2.2.length ac])[l.length * 4 + j]? = [Value.int .i64 x.1, .bool x.2.1, .int .i64 x.2.2.1, .slice ao x.2.2.2.length ac][j]? := fun j => by
      rw [List.getElem?_append_right (by omega), hl, Nat.add_sub_cancel_left]
    simp only [List.getElem_append_right (Nat.le_refl _), Nat.sub_self, List.getElem_cons_zero]
    exact ⟨ao, ac, t 0, t 1, t 2, t 3, ha, hb⟩
theorem FCl.take {B : Nat → Prop} {w : World} {vs : List Value} {l : List Fr} (h : FCl B w vs l) (n : Nat) : FCl B w (vs.take (n * 4)) (l.take n) := by
  refine ⟨by simp [h.1]; try omega, fun i hi => ?_⟩
  have hin : i < n := by simp at hi; omega
  have hil : i < l.length := by simp at hi; omega
  rw [List.getElem_take]
  obtain ⟨ao, ac, h0, h1, h2, h3, h4, h5⟩ := h.2 i hil
  have t : ∀ j, j < n * 4 → (vs.take (n * 4))[j]? = vs[j]? := fun j hj => List.getElem?_take_of_lt hj
  exact ⟨ao, ac, (t _ (by omega)).trans h0, (t _ (by omega)).trans h1, (t _ (by omega)).trans h2, (t _ (by omega)).trans h3, h4, h5⟩
/-- A frame put in another one's place. -/
theorem FCl.put {B : Nat → Prop} {w : World} {vs : List Value} {l : List Fr} (h : FCl B w vs l) {i : Nat} {x : Fr} {ao : Option Addr} {ac : Nat} (hi : i < l.length) (ha : ArgR w ao x.2.2.2 ac) (hb : ∀ a, ao = some a → B a.block) :
    FCl B w ((((vs.set (i * 4) (.int .i64 x.1)).set (i * 4 + 1) (.bool x.2.1)).set (i * 4 + 2) (.int .i64 x.2.2.1)).set (i * 4 + 3) (.slice ao x.2.2.2.length ac)) (l.set i x) := by
  have hl := h.1
  refine ⟨by simp [hl], fun j hj => ?_⟩
  have hjl : j < l.length := by simpa using hj
  by_cases e : i = j
  · subst e
    refine ⟨ao, ac, ?_, ?_, ?_, ?_, ?_, hb⟩
    · simp [List.getElem?_set]; omega
    · simp [List.getElem?_set]; omega
    · simp [List.getElem?_set]; omega
    · simp [List.getElem?_set]; omega
    · simpa using ha
  · obtain ⟨ao', ac', h0, h1, h2, h3, h4, h5⟩ := h.2 j hjl
    have t : ∀ o, o < 4 → ((((vs.set (i * 4) (.int .i64 x.1)).set (i * 4 + 1) (.bool x.2.1)).set (i * 4 + 2) (.int .i64 x.2.2.1)).set (i * 4 + 3) (.slice ao x.2.2.2.length ac))[j * 4 + o]? = vs[j * 4 + o]? := fun o ho => by
      rw [List.getElem?_set_ne (by omega), List.getElem?_set_ne (by omega), List.getElem?_set_ne (by omega), List.getElem?_set_ne (by omega)]
    have hx : (l.set i x)[j] = l[j] := by rw [List.getElem_set_ne e]
    rw [hx]
    exact ⟨ao', ac', (t 0 (by omega)).trans h0, (t 1 (by omega)).trans h1, (t 2 (by omega)).trans h2, (t 3 (by omega)).trans h3, h4, h5⟩
/-- The nodes of frames turned. -/
theorem FCl.node {B : Nat → Prop} {w : World} {vs : List Value} {l : List Fr} (h : FCl B w vs l) {i : Nat} (z : Int) (hi : i < l.length) :
    FCl B w (vs.set (i * 4) (.int .i64 z)) (l.set i (z, l[i].2)) := by
  have hl := h.1
  refine ⟨by simp [hl], fun j hj => ?_⟩
  have hjl : j < l.length := by simpa using hj
  obtain ⟨ao', ac', h0, h1, h2, h3, h4, h5⟩ := h.2 j hjl
  have t : ∀ o, 1 ≤ o → o < 4 → (vs.set (i * 4) (.int .i64 z))[j * 4 + o]? = vs[j * 4 + o]? := fun o h1 ho => by
    rw [List.getElem?_set_ne (by omega)]
  by_cases e : i = j
  · subst e
    simp only [List.getElem_set_self]
    exact ⟨ao', ac', by rw [List.getElem?_set_self (by omega)], (t 1 (by omega) (by omega)).trans h1, (t 2 (by omega) (by omega)).trans h2, (t 3 (by omega) (by omega)).trans h3, h4, h5⟩
  · have hx : (l.set i (z, l[i].2))[j] = l[j] := by rw [List.getElem_set_ne e]
    rw [hx]
    exact ⟨ao', ac', by rw [List.getElem?_set_ne (by omega)]; exact h0, (t 1 (by omega) (by omega)).trans h1, (t 2 (by omega) (by omega)).trans h2, (t 3 (by omega) (by omega)).trans h3, h4, h5⟩
/-- The paths lie in unlike blocks. -/
def FDj (vs : List Value) (n : Nat) : Prop := ∀ i j, i < j → j < n → ∀ a b, vs[i * 4 + 3]? = some a → vs[j * 4 + 3]? = some b → ∀ z, a.ownBlock = some z → b.ownBlock ≠ some z
theorem FDj.nil (vs : List Value) : FDj vs 0 := fun i j _ h => absurd h (Nat.not_lt_zero _)
/-- Where the paths of frames lie. -/
theorem FCl.far {B : Nat → Prop} {w : World} {vs : List Value} {l : List Fr} {N : Nat} (h : FCl (fun k => B k ∧ k < N) w vs l) {i : Nat} (hi : i < l.length) {a : Value} (ha : vs[i * 4 + 3]? = some a) {z : Nat} (hz : a.ownBlock = some z) : z < N := by
  obtain ⟨ao, ac, _, _, _, h3, _, h5⟩ := h.2 i hi
  rw [h3] at ha
  have e := Option.some.inj ha
  subst e
  cases ao with
  | none => cases hz
  | some x =>
    have e : x.block = z := Option.some.inj hz
    rw [← e]
    exact (h5 x rfl).2
theorem FDj.snoc {B : Nat → Prop} {w : World} {vs : List Value} {l : List Fr} {N : Nat} (h : FCl (fun k => B k ∧ k < N) w vs l) (hd : FDj vs l.length) {v0 v1 v2 v3 : Value} (hv : ∀ z, v3.ownBlock = some z → N ≤ z) : FDj (vs ++ [v0, v1, v2, v3]) (l.length + 1) := by
  have hl := h.1
  have t : ∀ i, i < l.length → (vs ++ [v0, v1, v2, v3])[i * 4 + 3]? = vs[i * 4 + 3]? := fun i hi => by rw [List.getElem?_append_left (by omega)]
  intro i j hij hj a b ha hb z hz hz'
  rw [t i (by omega)] at ha
  by_cases e : j < l.length
  · rw [t j e] at hb
    exact hd i j hij e a b ha hb z hz hz'
  · obtain rfl : j = l.length := by omega
    have hb' : [v0, v1, v2, v3][3]? = some b := by
      rw [List.getElem?_append_right (by omega), hl, Nat.add_sub_cancel_left] at hb
      exact hb
    have e2 : v3 = b := by simpa using hb'
    subst e2
    have := h.far (i := i) (by omega) ha hz
    have := hv z hz'
    omega
theorem FDj.put {B : Nat → Prop} {w : World} {vs : List Value} {l : List Fr} {N : Nat} (h : FCl (fun k => B k ∧ k < N) w vs l) (hd : FDj vs l.length) {k : Nat} (hk : k < l.length) {v0 v1 v2 v3 : Value} (hv : ∀ z, v3.ownBlock = some z → N ≤ z) : FDj ((((vs.set (k * 4) v0).set (k * 4 + 1) v1).set (k * 4 + 2) v2).set (k * 4 + 3) v3) l.length := by
  have hl := h.1
  have t : ∀ i, i ≠ k → ((((vs.set (k * 4) v0).set (k * 4 + 1) v1).set (k * 4 + 2) v2).set (k * 4 + 3) v3)[i * 4 + 3]? = vs[i * 4 + 3]? := fun i hi => by
    rw [List.getElem?_set_ne (by omega), List.getElem?_set_ne (by omega), List.getElem?_set_ne (by omega), List.getElem?_set_ne (by omega)]
  have tk : ((((vs.set (k * 4) v0).set (k * 4 + 1) v1).set (k * 4 + 2) v2).set (k * 4 + 3) v3)[k * 4 + 3]? = some v3 := by
    rw [List.getElem?_set_self (by simp; omega)]
  intro i j hij hj a b ha hb z hz hz'
  by_cases e1 : i = k
  · subst e1
    rw [tk] at ha
    rw [t j (by omega)] at hb
    have e := Option.some.inj ha
    subst e
    have := h.far hj hb hz'
    have := hv z hz
    omega
  · rw [t i e1] at ha
    by_cases e2 : j = k
    · subst e2
      rw [tk] at hb
      have e := Option.some.inj hb
      subst e
      have := h.far (i := i) (by omega) ha hz
      have := hv z hz'
      omega
    · rw [t j e2] at hb
      exact hd i j hij hj a b ha hb z hz hz'
theorem FDj.take {vs : List Value} {n : Nat} (hd : FDj vs n) (m : Nat) (hm : m ≤ n) : FDj (vs.take (m * 4)) m := by
  intro i j hij hj a b ha hb
  rw [List.getElem?_take_of_lt (by omega)] at ha hb
  exact hd i j hij (by omega) a b ha hb
theorem FDj.node {vs : List Value} {n : Nat} (hd : FDj vs n) (k : Nat) (v : Value) : FDj (vs.set (k * 4) v) n := by
  intro i j hij hj a b ha hb
  rw [List.getElem?_set_ne (by omega)] at ha hb
  exact hd i j hij hj a b ha hb
/-- A row of frames of a call's own. -/
def FRow (B : Nat → Prop) (base : Nat) (w : World) (v : Value) (l : List Fr) : Prop := ∃ vs, w.ownsRow base 30 4 v l.length vs ∧ FCl B w vs l ∧ FDj vs l.length
theorem FRow.nil (B : Nat → Prop) (base : Nat) (w : World) : FRow B base w (.slice none 0 0) [] := ⟨[], World.ownsRow_nil _ _ _ _, FCl.nil B w, FDj.nil _⟩
theorem FRow.kept {B S : Nat → Prop} {base : Nat} {w w' : World} {v : Value} {l : List Fr} (h : FRow B base w v l) (hk : Kept S w w') (hn : ∀ k, v.ownBlock = some k → ¬ S k) (hS : ∀ k, B k → S k → NotI w k) : FRow B base w' v l := by
  obtain ⟨vs, h1, h2, h3⟩ := h
  exact ⟨vs, hk.row h1 hn, h2.kept hk hS, h3⟩
theorem FRow.same {B : Nat → Prop} {base : Nat} {w w' : World} {v : Value} {l : List Fr} (h : FRow B base w v l) (hk : Same0 w w') : FRow B base w' v l := h.kept hk (fun _ _ f => f) (fun _ _ f => f.elim)
theorem FRow.mono {B B' : Nat → Prop} {base : Nat} {w : World} {v : Value} {l : List Fr} (h : FRow B base w v l) (hB : ∀ k, k < w.heap.size → B k → B' k) : FRow B' base w v l := by
  obtain ⟨vs, h1, h2, h3⟩ := h
  exact ⟨vs, h1, h2.mono hB, h3⟩
theorem FRow.shape {B : Nat → Prop} {base : Nat} {w : World} {v : Value} {l : List Fr} (h : FRow B base w v l) : ∃ ao cap, v = .slice ao l.length cap := by
  obtain ⟨vs, h1, _⟩ := h
  exact row_shape h1
theorem FRow.block {B : Nat → Prop} {base : Nat} {w : World} {v : Value} {l : List Fr} (h : FRow B base w v l) {k : Nat} (e : v.ownBlock = some k) : base ≤ k ∧ k < w.heap.size ∧ NotI w k ∧ ∃ cur, w.heap[k]? = some (.cells cur 30 (0, 0)) := by
  obtain ⟨vs, h1, _⟩ := h
  rcases h1.2 with ⟨rfl, _⟩ | ⟨g, cap, cur, rfl, hb, hg, _⟩
  · cases e
  · obtain rfl : g = k := Option.some.inj e
    exact ⟨hb, lt_of_at hg, (fun c hc => by rw [hg] at hc; cases hc), cur, hg⟩
theorem FRow.onto {B : Nat → Prop} {w w0 w' : World} {v : Value} {l : List Fr} (h : Same0 w w0) (hr : FRow B w.heap.size w0 v l) (hk : Kept (fun k => v.ownBlock = some k) w0 w') : Same0 w w' :=
  h.trans hk (fun i hi e => by have := (hr.block e).1; omega)
theorem FRow.take {B : Nat → Prop} {base : Nat} {w : World} {ao : Option Addr} {n cap : Nat} {l : List Fr} (h : FRow B base w (.slice ao n cap) l) (m : Nat) (hm : m ≤ n) : FRow B base w (.slice ao m cap) (l.take m) := by
  obtain ⟨vs, h1, h2, h3⟩ := h
  refine ⟨vs.take (m * 4), ?_, h2.take m, ?_⟩
  rotate_left
  · have hml : (l.take m).length ≤ l.length := by simp; omega
    have hmn : (l.take m).length ≤ m := by simp; omega
    intro i j hij hj a b ha hb
    have hjm : j < m := by omega
    rw [List.getElem?_take_of_lt (by omega)] at ha hb
    exact h3 i j hij (by omega) a b ha hb
  rcases h1.2 with ⟨e, h0⟩ | ⟨g, cap', cur, e, hb, hg, hle, hmx, hsz, ht⟩
  · simp only [Value.slice.injEq] at e
    obtain ⟨rfl, rfl, rfl⟩ := e
    obtain rfl : m = 0 := by omega
    refine ⟨by simp, .inl ⟨rfl, by simp⟩⟩
  · simp only [Value.slice.injEq] at e
    obtain ⟨rfl, rfl, rfl⟩ := e
    have hml : (l.take m).length = m := by simp; omega
    rw [hml]
    refine ⟨by simp [h1.1]; omega, .inr ⟨g, cap, cur, rfl, hb, hg, by omega, hmx, hsz, ?_⟩⟩
    rw [← ht, List.take_take, Nat.min_eq_left (by omega)]
/-- Frames that are read, wherever they lie; of their paths' blocks B holds. -/
def FsM (B : Nat → Prop) (w : World) (ao : Option Addr) (l : List Fr) : Prop := l = [] ∨ ∃ b off, ao = some ⟨b, off, none⟩ ∧ b < w.heap.size ∧ ∀ i (hi : i < l.length), ∃ xo xc, w.cell? ⟨b, off + i * 4, none⟩ = some (.int .i64 l[i].1) ∧ w.cell? ⟨b, off + i * 4 + 1, none⟩ = some (.bool l[i].2.1) ∧ w.cell? ⟨b, off + i * 4 + 2, none⟩ = some (.int .i64 l[i].2.2.1) ∧ w.cell? ⟨b, off + i * 4 + 3, none⟩ = some (.slice xo l[i].2.2.2.length xc) ∧ Arg w xo l[i].2.2.2 xc ∧ (l[i].2.2.2 ≠ [] → ∀ a, xo = some a → B a.block)
theorem IntsAt.ltF {w : World} {ao : Option Addr} {xs : List Int} (h : IntsAt w ao xs) (h0 : xs ≠ []) {a : Addr} (e : ao = some a) : a.block < w.heap.size := by
  rcases h with q | ⟨b, off, rfl, hlt, _⟩
  · exact absurd q h0
  · cases e; exact hlt
theorem FsM.kept {B S : Nat → Prop} {w w' : World} {ao : Option Addr} {l : List Fr} (h : FsM B w ao l) (hk : Kept S w w') (hn : ∀ a, ao = some a → ¬ S a.block) (hS : ∀ k, k < w.heap.size → B k → ¬ S k) : FsM B w' ao l := by
  refine h.imp id ?_
  rintro ⟨b, off, rfl, hlt, hc⟩
  have t : ∀ o, w'.cell? ⟨b, o, none⟩ = w.cell? ⟨b, o, none⟩ := fun o => hk.cell (p := ⟨b, o, none⟩) hlt (hn ⟨b, off, none⟩ rfl)
  refine ⟨b, off, rfl, Nat.lt_of_lt_of_le hlt hk.size, fun i hi => ?_⟩
  obtain ⟨xo, xc, n0, n1, n2, n3, n4, n5⟩ := hc i hi
  refine ⟨xo, xc, (t _).trans n0, (t _).trans n1, (t _).trans n2, (t _).trans n3, ⟨?_, n4.cap', n4.nil, n4.size⟩, n5⟩
  by_cases e : l[i].2.2.2 = []
  · exact .inl e
  · exact n4.at'.kept hk (fun a q => hS _ (n4.at'.ltF e q) (n5 e a q))
theorem FsM.same {B : Nat → Prop} {w w' : World} {ao : Option Addr} {l : List Fr} (h : FsM B w ao l) (hk : Same0 w w') : FsM B w' ao l := h.kept hk (fun _ _ f => f) (fun _ _ _ f => f)
theorem FsM.mono {B B' : Nat → Prop} {w : World} {ao : Option Addr} {l : List Fr} (h : FsM B w ao l) (hB : ∀ k, k < w.heap.size → B k → B' k) : FsM B' w ao l := by
  refine h.imp id ?_
  rintro ⟨b, off, rfl, hlt, hc⟩
  refine ⟨b, off, rfl, hlt, fun i hi => ?_⟩
  obtain ⟨xo, xc, n0, n1, n2, n3, n4, n5⟩ := hc i hi
  exact ⟨xo, xc, n0, n1, n2, n3, n4, fun e a q => hB _ (n4.at'.ltF e q) (n5 e a q)⟩
theorem FsM.get {B : Nat → Prop} {w : World} {ao : Option Addr} {l : List Fr} (h : FsM B w ao l) {i : Nat} (hi : i < l.length) : ∃ b off xo xc, ao = some ⟨b, off, none⟩ ∧ b < w.heap.size ∧ w.cell? ⟨b, off + i * 4, none⟩ = some (.int .i64 l[i].1) ∧ w.cell? ⟨b, off + i * 4 + 1, none⟩ = some (.bool l[i].2.1) ∧ w.cell? ⟨b, off + i * 4 + 2, none⟩ = some (.int .i64 l[i].2.2.1) ∧ w.cell? ⟨b, off + i * 4 + 3, none⟩ = some (.slice xo l[i].2.2.2.length xc) ∧ Arg w xo l[i].2.2.2 xc ∧ (l[i].2.2.2 ≠ [] → ∀ a, xo = some a → B a.block) := by
  rcases h with rfl | ⟨b, off, e, hlt, hc⟩
  · simp at hi
  · obtain ⟨xo, xc, q⟩ := hc i hi
    exact ⟨b, off, xo, xc, e, hlt, q⟩
theorem FRow.mem {B : Nat → Prop} {base : Nat} {w : World} {ao : Option Addr} {n cap : Nat} {l : List Fr} (h : FRow B base w (.slice ao n cap) l) : FsM B w ao l := by
  obtain ⟨vs, h1, h2, -⟩ := h
  by_cases e : l = []
  · exact .inl e
  · have h1' := h1
    rcases h1.2 with ⟨q, h0⟩ | ⟨g, cap', cur, q, hb, hg, _⟩
    · exact absurd (List.eq_nil_of_length_eq_zero h0) e
    · simp only [Value.slice.injEq] at q
      obtain ⟨rfl, rfl, rfl⟩ := q
      refine .inr ⟨g, 0, rfl, lt_of_at hg, fun i hi => ?_⟩
      obtain ⟨ao, ac, g0, g1, g2, g3, g4, g5⟩ := h2.2 i hi
      have t : ∀ j u, vs[j]? = some u → w.cell? ⟨g, j, none⟩ = some u := fun j u hj => by
        have := h1'.cells (g := g) rfl j u hj
        by_cases q : j = 0
        · subst q; simpa [Addr.add] using this
        · simpa [Addr.add, q] using this
      rw [Nat.zero_add]
      exact ⟨ao, ac, t _ _ g0, t _ _ g1, t _ _ g2, t _ _ g3, g4.1.1, fun _ a e => g5 a e⟩
/-- Four cells stored one behind the other. -/
def put4F (w : World) (g off : Nat) (v0 v1 v2 v3 : Value) : World :=
  (((w.setCell ⟨g, off, none⟩ v0).setCell ⟨g, off + 1, none⟩ v1).setCell ⟨g, off + 2, none⟩ v2).setCell ⟨g, off + 3, none⟩ v3
theorem put4F_kept (w : World) (g off : Nat) (v0 v1 v2 v3 : Value) : Kept (fun k => k = g) w (put4F w g off v0 v1 v2 v3) := by
  have t : ∀ (w' : World) (o : Nat) (v : Value), Kept (fun k => k = g) w w' → Kept (fun k => k = g) w (w'.setCell ⟨g, o, none⟩ v) := fun w' o v h => Kept.setCell (S := fun k => k = g) h (p := ⟨g, o, none⟩) (fun _ => rfl) v
  exact t _ _ _ (t _ _ _ (t _ _ _ (t _ _ _ (Kept.refl _ w))))
/-- A frame stored into a row. -/
theorem FRow.put {B : Nat → Prop} {base N : Nat} {w : World} {g cap : Nat} {l : List Fr} (h : FRow (fun k => B k ∧ k < N) base w (.slice (some ⟨g, 0, none⟩) l.length cap) l) {i : Nat} (hi : i < l.length) {x : Fr} {ao : Option Addr} {ac : Nat} (ha : ArgR w ao x.2.2.2 ac) (hb : ∀ a, ao = some a → B a.block ∧ N ≤ a.block) :
    FRow B base (put4F w g (i * 4) (.int .i64 x.1) (.bool x.2.1) (.int .i64 x.2.2.1) (.slice ao x.2.2.2.length ac)) (.slice (some ⟨g, 0, none⟩) l.length cap) (l.set i x) := by
  have hb' := h.block (k := g) rfl
  obtain ⟨vs, h1, h2, h3⟩ := h
  have ks := put4F_kept w g (i * 4) (.int .i64 x.1) (.bool x.2.1) (.int .i64 x.2.2.1) (.slice ao x.2.2.2.length ac)
  have e : (l.set i x).length = l.length := by simp
  refine ⟨_, ?_, ((h2.mono (B' := B) (fun _ _ q => q.1)).put hi ha (fun a q => (hb a q).1)).kept ks (fun k _ e => by rw [e]; exact hb'.2.2.1), ?_⟩
  · rw [e]
    exact ((((h1.stored _ _).1.stored _ _).1.stored _ _).1.stored _ _).1
  · rw [e]
    refine FDj.put h2 h3 hi (fun z hz => ?_)
    cases ao with
    | none => cases hz
    | some a =>
      have e2 : a.block = z := Option.some.inj hz
      rw [← e2]; exact (hb a rfl).2
theorem FRow.node {B : Nat → Prop} {base : Nat} {w : World} {g cap : Nat} {l : List Fr} (h : FRow B base w (.slice (some ⟨g, 0, none⟩) l.length cap) l) {i : Nat} (hi : i < l.length) (z : Int) :
    FRow B base (w.setCell ⟨g, i * 4, none⟩ (.int .i64 z)) (.slice (some ⟨g, 0, none⟩) l.length cap) (l.set i (z, l[i].2)) := by
  have hb' := h.block (k := g) rfl
  obtain ⟨vs, h1, h2, h3⟩ := h
  have ks : Kept (fun k => k = g) w (w.setCell ⟨g, i * 4, none⟩ (.int .i64 z)) := Kept.setCell (S := fun k => k = g) (Kept.refl _ w) (p := ⟨g, i * 4, none⟩) (fun _ => rfl) _
  have e : (l.set i (z, l[i].2)).length = l.length := by simp
  refine ⟨_, ?_, (h2.node z hi).kept ks (fun k _ e => by rw [e]; exact hb'.2.2.1), ?_⟩
  · rw [e]
    exact (h1.stored _ _).1
  · rw [e]
    exact h3.node i _
/-- A spine in memory (the program's, the document's, or a list of frames in a box): its box s, the row v in it, the frames l. -/
structure SpT (t : TypeId) (B : Nat → Prop) (base : Nat) (w : World) (s : Nat) (v : Value) (l : List Fr) : Prop where
  box : w.heap[s]? = some (.cells #[v] t (0, 0))
  row : FRow B base w v l
  low : base ≤ s
  dif : t ≠ 3 ∧ t ≠ 30
theorem SpT.lt {t : TypeId} {B : Nat → Prop} {base : Nat} {w : World} {s : Nat} {v : Value} {l : List Fr} (h : SpT t B base w s v l) : s < w.heap.size := lt_of_at h.box
theorem SpT.kept {t : TypeId} {B S : Nat → Prop} {base : Nat} {w w' : World} {s : Nat} {v : Value} {l : List Fr} (h : SpT t B base w s v l) (hk : Kept S w w') (n1 : ¬ S s) (hn : ∀ k, v.ownBlock = some k → ¬ S k) (hS : ∀ k, B k → S k → NotI w k) : SpT t B base w' s v l :=
  ⟨hk.at h.box n1, h.row.kept hk hn hS, h.low, h.dif⟩
theorem SpT.same {t : TypeId} {B : Nat → Prop} {base : Nat} {w w' : World} {s : Nat} {v : Value} {l : List Fr} (h : SpT t B base w s v l) (hk : Same0 w w') : SpT t B base w' s v l := h.kept hk (fun f => f) (fun _ _ f => f) (fun _ _ f => f.elim)
theorem SpT.mono {t : TypeId} {B B' : Nat → Prop} {base : Nat} {w : World} {s : Nat} {v : Value} {l : List Fr} (h : SpT t B base w s v l) (hB : ∀ k, k < w.heap.size → B k → B' k) : SpT t B' base w s v l := ⟨h.box, h.row.mono hB, h.low, h.dif⟩
theorem SpT.notI {t : TypeId} {B : Nat → Prop} {base : Nat} {w : World} {s : Nat} {v : Value} {l : List Fr} (h : SpT t B base w s v l) : NotI w s := fun cur hc => by
  have q := h.box
  rw [hc] at q
  simp only [Option.some.injEq, Obj.cells.injEq] at q
  exact h.dif.1 q.2.1.symm
theorem SpT.ne {t : TypeId} {B : Nat → Prop} {base : Nat} {w : World} {s : Nat} {v : Value} {l : List Fr} (h : SpT t B base w s v l) : v.ownBlock ≠ some s := fun e => by
  obtain ⟨_, _, _, cur, hc⟩ := h.row.block e
  have q := h.box
  rw [hc] at q
  simp only [Option.some.injEq, Obj.cells.injEq] at q
  exact h.dif.2 q.2.1.symm
theorem SpT.cell {t : TypeId} {B : Nat → Prop} {base : Nat} {w : World} {s : Nat} {v : Value} {l : List Fr} (h : SpT t B base w s v l) : w.cell? ⟨s, 0, none⟩ = some v ∧ w.frozen? ⟨s, 0, none⟩ = false := ⟨cellAt h.box 0, frozenAt h.box 0⟩
/-- Another row is put into the box. -/
theorem SpT.turn {t : TypeId} {B B' : Nat → Prop} {base : Nat} {w w9 : World} {s : Nat} {v v' : Value} {l l' : List Fr} (h : SpT t B base w s v l) {S : Nat → Prop} (hk : Kept S w w9) (ns : ¬ S s) (r : FRow B' base w9 v' l') :
    SpT t B' base (w9.setCell ⟨s, 0, none⟩ v') s v' l' ∧ Kept (fun k => k = s ∨ S k) w (w9.setCell ⟨s, 0, none⟩ v') ∧ w9.cell? ⟨s, 0, none⟩ = some v ∧ w9.frozen? ⟨s, 0, none⟩ = false := by
  have b9 := hk.at h.box ns
  have ks : Kept (fun k => k = s) w9 (w9.setCell ⟨s, 0, none⟩ v') := Kept.setCell (S := fun k => k = s) (Kept.refl _ _) (p := ⟨s, 0, none⟩) (fun _ => rfl) _
  have ni : NotI w9 s := fun cur hc => by
    rw [b9] at hc
    simp only [Option.some.injEq, Obj.cells.injEq] at hc
    exact h.dif.1 hc.2.1
  refine ⟨⟨by rw [setAt b9]; rfl, r.kept ks (fun k e q => ?_) (fun k _ q => by rw [q]; exact ni), h.low, h.dif⟩, (hk.mono (fun _ _ e => .inr e)).trans ks (fun _ _ e => .inl e), cellAt b9 0, frozenAt b9 0⟩
  obtain ⟨_, _, _, cur, hc⟩ := r.block e
  rw [q, b9] at hc
  simp only [Option.some.injEq, Obj.cells.injEq] at hc
  exact h.dif.2 hc.2.1
theorem info_frame : (Try.prog.info? 30).map (fun i => (i.zero, i.size, i.bytes)) = some (some (.agg #[.int .i64 0, .bool false, .int .i64 0, .slice none 0 0]), 4, 48) := by kernel_rfl
/-- append of one frame to a row, in a drawn region. -/
theorem step_fr {w0 W : World} {ops : Array Oper} {o : Oper} {a : Act} {K : Act → World → Prop} {Q : Exit → Act → World → Prop} {E : Prop} (hgd : o.guard = none) (s x : Operand) (t : TypeId)
    (ho : o.op = .call { callee := .builtin .append, args := #[s, x], argTypes := #[t, t] }) (ht : Try.prog.underlying t = some (.slice 30))
    {B : Nat → Prop} {N : Nat} (base : Nat) (l : List Fr) (v : Value) (hs : a.eval s = v) (hW : Same0 w0 W) (hr : FRow (fun k => B k ∧ k < N) base w0 v l) (y : Fr) (ao : Option Addr) (ac : Nat) (q : Nat) (hx : a.eval x = .slice (some ⟨q, 0, none⟩) 1 1) (hq : W.heap[q]? = some (.cells #[.int .i64 y.1, .bool y.2.1, .int .i64 y.2.2.1, .slice ao y.2.2.2.length ac] 30 (0, 0))) (ha : ArgR w0 ao y.2.2.2 ac) (hba : ∀ b, ao = some b → B b.block ∧ N ≤ b.block) (hb : base ≤ w0.heap.size) (hsz : (l.length + 1) * 48 ≤ 140737488355328)
    (h : ∀ g cap w', FRow B base w' (.slice (some ⟨g, 0, none⟩) (l.length + 1) cap) (l ++ [y]) → Kept (fun k => v.ownBlock = some k) w0 w' → (v.ownBlock = some g ∨ w0.heap.size ≤ g) → K (a.put o.dst (.slice (some ⟨g, 0, none⟩) (l.length + 1) cap)) w') :
    if Region.wanted o (yielded ops a.tmps) = true then Oper.wp Try.prog o a W K Q else E := by
  obtain ⟨i, hi, hz0, hz1, hz2⟩ := info_parts info_frame
  obtain ⟨vs, h1, h2, h3⟩ := hr
  have nb : ∀ k, v.ownBlock = some k → NotI w0 k := fun k e => (FRow.block ⟨vs, h1, h2, h3⟩ e).2.2.1
  refine step_append_lies _ hgd s x t ho base 30 i _ 4 48 ht hi hz0 hz1 hz2 rfl (by decide) v l.length vs hs (hW.row h1 (fun _ _ f => f)) ⟨q, 0, none⟩ 1 1 [.int .i64 y.1, .bool y.2.1, .int .i64 y.2.2.1, .slice ao y.2.2.2.length ac] hx rfl (World.news_of_block (cs := #[.int .i64 y.1, .bool y.2.1, .int .i64 y.2.2.1, .slice ao y.2.2.2.length ac]) (t := 30) (fr := (0, 0)) hq) (by intro u hu; simp at hu; rcases hu with rfl | rfl | rfl | rfl <;> rfl) (by omega) (by unfold maxLen; omega) (by omega) (Nat.le_trans hb hW.size) W.heap.size rfl ?_
  intro g cap w' hown hgrow hat hlt
  have K' : Kept (fun k => v.ownBlock = some k) w0 w' := Kept.grown (Kept.mono hW (fun _ _ f => f.elim)) hgrow (fun _ e _ => e)
  refine h g cap w' ⟨_, by rw [List.length_append]; exact hown, ?_, ?_⟩ K' (hat.imp id (fun e => by have := hW.size; omega))
  · exact ((h2.mono (B' := B) (fun _ _ q => q.1)).kept K' (fun k _ e => nb k e)).snoc (ha.kept K' (fun k e => nb k e)) (fun b e => (hba b e).1)
  · rw [List.length_append]
    refine FDj.snoc h2 h3 (fun z hz => ?_)
    cases ao with
    | none => cases hz
    | some b =>
      have e2 : b.block = z := Option.some.inj hz
      rw [← e2]; exact (hba b rfl).2
theorem step_callF {ops : Array Oper} {o : Oper} {a : Act} {w : World} {K : Act → World → Prop} {Q : Exit → Act → World → Prop} {E : Prop} {f : FuncId} {args : Array Value} {R : Ending → World → Prop} (hgd : o.guard = none)
    (c : Calls Try.prog f args w R) (hrun : (execOp a.eval o).run Try.prog w = .ok (.enter f args) w) (hR : ∀ e w', R e w' → ∃ v, e = .returned v ∧ (K (a.put o.dst v) w')) :
    if Region.wanted o (yielded ops a.tmps) = true then Oper.wp Try.prog o a w K Q else E := by
  have hw : Region.wanted o (yielded ops a.tmps) = true := by simp [Region.wanted, hgd]
  rw [if_pos hw]
  unfold Oper.wp
  rw [hrun, Oper.upon_enter]
  refine c.mono fun e w' h => ?_
  obtain ⟨v, rfl, h2⟩ := hR e w' h
  exact h2
end Go.Proofs.Ytikcocjbbbdmgaa
