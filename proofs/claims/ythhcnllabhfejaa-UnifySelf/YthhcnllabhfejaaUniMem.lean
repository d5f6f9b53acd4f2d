/- A joint of package unify in memory: its list, its ends, what leads where, its sizes; the walks of next and leader. -/
import Derived.Test.YthhcnllabhfejaaUniPlain
import Derived.Test.YthhcnllabhfejaaTermBase
namespace Go.Proofs.Ythhcnllabhfejaa
set_option maxRecDepth 100000
set_option linter.unusedVariables false
open Go.RowKit
attribute [local go_sem ↓] Go.wp_at_zero Go.wp_at_succ
/-- Numbers in a block. -/
def Nums (w : World) (b n : Nat) (f : Nat → Int) : Prop := ∃ cs t, w.heap[b]? = some (.cells cs t (0, 0)) ∧ n ≤ cs.size ∧ ∀ i, i < n → cs[i]? = some (.int .i64 (f i))
theorem Nums.kept {S : Nat → Prop} {w w' : World} {b n : Nat} {f : Nat → Int} (h : Nums w b n f) (hk : Kept S w w') (hs : ¬ S b) : Nums w' b n f := by
  obtain ⟨cs, t, h1, h2⟩ := h
  exact ⟨cs, t, hk.at h1 hs, h2⟩
theorem Nums.lt {w : World} {b n : Nat} {f : Nat → Int} (h : Nums w b n f) : b < w.heap.size := by
  obtain ⟨cs, t, h1, h2⟩ := h
  exact lt_of_at h1
theorem Nums.cell {w : World} {b n : Nat} {f : Nat → Int} (h : Nums w b n f) {i : Nat} (hi : i < n) : w.cell? ⟨b, i, none⟩ = some (.int .i64 (f i)) ∧ w.frozen? ⟨b, i, none⟩ = false := by
  obtain ⟨cs, t, h1, _, h2⟩ := h
  exact ⟨by rw [cellAt h1]; exact h2 i hi, frozenAt h1 i⟩
theorem Nums.set {w : World} {b n : Nat} {f : Nat → Int} (h : Nums w b n f) (i : Nat) (v : Int) : Nums (w.setCell ⟨b, i, none⟩ (.int .i64 v)) b n (fun k => if k = i then v else f k) := by
  obtain ⟨cs, t, h1, h0, h2⟩ := h
  refine ⟨_, t, setAt h1 i _, by simpa using h0, fun k hk => ?_⟩
  rw [Array.getElem?_setIfInBounds]
  by_cases e : k = i
  · subst e; rw [if_pos rfl, if_pos (by omega)]; simp
  · rw [if_neg (fun f => e f.symm)]; simp only [e, if_false]; exact h2 k hk
theorem Nums.congr {w : World} {b n : Nat} {f g : Nat → Int} (h : Nums w b n f) (e : ∀ i, i < n → f i = g i) : Nums w b n g := by
  obtain ⟨cs, t, h1, h0, h2⟩ := h
  exact ⟨cs, t, h1, h0, fun i hi => by rw [h2 i hi, e i hi]⟩
/-- Where a joint lies. -/
structure JB where
  jb : Nat
  lb : Nat
  eb : Nat
  sb : Nat
  zb : Nat
  lcap : Nat
def JB.Foot (B : JB) (k : Nat) : Prop := k = B.jb ∨ k = B.lb ∨ k = B.eb ∨ k = B.sb ∨ k = B.zb
structure JB.Apart (B : JB) : Prop where
  a1 : B.jb ≠ B.lb
  a2 : B.jb ≠ B.eb
  a3 : B.jb ≠ B.sb
  a4 : B.jb ≠ B.zb
  a5 : B.sb ≠ B.lb
  a6 : B.sb ≠ B.eb
  a7 : B.sb ≠ B.zb
  a8 : B.zb ≠ B.lb
  a9 : B.zb ≠ B.eb
/-- The joint's own block. -/
def Head (w : World) (B : JB) (N M : Nat) (nx : Int → Int) : Prop := ∃ cs, w.heap[B.jb]? = some (.cells cs 99 (0, 0)) ∧ cs.size = 203 ∧ cs[0]? = some (.slice (some ⟨B.lb, 0, none⟩) N B.lcap) ∧ cs[1]? = some (.slice (some ⟨B.eb, 0, none⟩) M M) ∧ (∀ v, 1 ≤ v → v < 199 → cs[2 + v]? = some (.int .i64 (nx (-(v : Int))))) ∧ cs[201]? = some (.slice (some ⟨B.sb, 0, none⟩) M M) ∧ cs[202]? = some (.slice (some ⟨B.zb, 0, none⟩) M M)
theorem Head.kept {S : Nat → Prop} {w w' : World} {B : JB} {N M : Nat} {nx : Int → Int} (h : Head w B N M nx) (hk : Kept S w w') (hs : ¬ S B.jb) : Head w' B N M nx := by
  obtain ⟨cs, h1, h2⟩ := h
  exact ⟨cs, hk.at h1 hs, h2⟩
theorem Head.cells {w : World} {B : JB} {N M : Nat} {nx : Int → Int} (h : Head w B N M nx) : w.cell? ⟨B.jb, 0, none⟩ = some (.slice (some ⟨B.lb, 0, none⟩) N B.lcap) ∧ w.cell? ⟨B.jb, 1, none⟩ = some (.slice (some ⟨B.eb, 0, none⟩) M M) ∧ w.cell? ⟨B.jb, 201, none⟩ = some (.slice (some ⟨B.sb, 0, none⟩) M M) ∧ w.cell? ⟨B.jb, 202, none⟩ = some (.slice (some ⟨B.zb, 0, none⟩) M M) ∧ B.jb < w.heap.size := by
  obtain ⟨cs, h1, h2, h3, h4, h5, h6, h7⟩ := h
  exact ⟨by rw [cellAt h1]; exact h3, by rw [cellAt h1]; exact h4, by rw [cellAt h1]; exact h6, by rw [cellAt h1]; exact h7, lt_of_at h1⟩
theorem Head.var {w : World} {B : JB} {N M : Nat} {nx : Int → Int} (h : Head w B N M nx) {v : Nat} (h1 : 1 ≤ v) (h2 : v < 199) : w.cell? ⟨B.jb, 2 + v, none⟩ = some (.int .i64 (nx (-(v : Int)))) ∧ w.frozen? ⟨B.jb, 2 + v, none⟩ = false := by
  obtain ⟨cs, g1, g2, g3, g4, g5, g6, g7⟩ := h
  exact ⟨by rw [cellAt g1]; exact g5 v h1 h2, frozenAt g1 _⟩
theorem Head.set {w : World} {B : JB} {N M : Nat} {nx : Int → Int} (h : Head w B N M nx) {v : Nat} (h1 : 1 ≤ v) (h2 : v < 199) (x : Int) : Head (w.setCell ⟨B.jb, 2 + v, none⟩ (.int .i64 x)) B N M (fun y => if y = -(v : Int) then x else nx y) := by
  obtain ⟨cs, g1, g2, g3, g4, g5, g6, g7⟩ := h
  refine ⟨_, setAt g1 _ _, by simpa using g2, ?_, ?_, ?_, ?_, ?_⟩
  · rw [Array.getElem?_setIfInBounds, if_neg (by omega)]; exact g3
  · rw [Array.getElem?_setIfInBounds, if_neg (by omega)]; exact g4
  · intro k hk1 hk2
    rw [Array.getElem?_setIfInBounds]
    by_cases e : k = v
    · subst e; rw [if_pos rfl, if_pos (by omega)]; simp
    · rw [if_neg (by omega)]; simp only [show ¬ (-(k : Int) = -(v : Int)) by omega, if_false]; exact g5 k hk1 hk2
  · rw [Array.getElem?_setIfInBounds, if_neg (by omega)]; exact g6
  · rw [Array.getElem?_setIfInBounds, if_neg (by omega)]; exact g7
theorem Head.congr {w : World} {B : JB} {N M : Nat} {nx ny : Int → Int} (h : Head w B N M nx) (e : ∀ v : Nat, 1 ≤ v → v < 199 → nx (-(v : Int)) = ny (-(v : Int))) : Head w B N M ny := by
  obtain ⟨cs, g1, g2, g3, g4, g5, g6, g7⟩ := h
  exact ⟨cs, g1, g2, g3, g4, fun v a b => by rw [g5 v a b, e v a b], g6, g7⟩
/-- The joint. -/
structure JC (L : List Sym) (B : JB) (w : World) (J : List Int) (nx : Int → Int) (sz : Nat → Int) : Prop where
  head : Head w B J.length J.length nx
  list : Nums w B.lb J.length (fun i => at' J i)
  ends : Nums w B.eb J.length (fun i => (endN L J i : Int))
  same : Nums w B.sb J.length (fun i => nx i)
  sizes : Nums w B.zb J.length sz
  ap : B.Apart
theorem JC.kept {L : List Sym} {S : Nat → Prop} {w w' : World} {B : JB} {J : List Int} {nx : Int → Int} {sz : Nat → Int} (h : JC L B w J nx sz) (hk : Kept S w w') (hs : ∀ k, B.Foot k → ¬ S k) : JC L B w' J nx sz :=
  ⟨h.head.kept hk (hs _ (.inl rfl)), h.list.kept hk (hs _ (.inr (.inl rfl))), h.ends.kept hk (hs _ (.inr (.inr (.inl rfl)))), h.same.kept hk (hs _ (.inr (.inr (.inr (.inl rfl))))), h.sizes.kept hk (hs _ (.inr (.inr (.inr (.inr rfl))))), h.ap⟩
theorem JC.lt {L : List Sym} {w : World} {B : JB} {J : List Int} {nx : Int → Int} {sz : Nat → Int} (h : JC L B w J nx sz) {k : Nat} (hk : B.Foot k) : k < w.heap.size := by
  rcases hk with e | e | e | e | e <;> subst e
  · exact h.head.cells.2.2.2.2
  · exact h.list.lt
  · exact h.ends.lt
  · exact h.same.lt
  · exact h.sizes.lt
/-- Where it is kept to which part a part leads. -/
def nxA (B : JB) (x : Int) : Addr := if x < 0 then ⟨B.jb, 2 + (-x).toNat, none⟩ else ⟨B.sb, x.toNat, none⟩
def nxB (B : JB) (x : Int) : Nat := if x < 0 then B.jb else B.sb
theorem nxA_block (B : JB) (x : Int) : (nxA B x).block = nxB B x := by unfold nxA nxB; split <;> rfl
theorem JC.next {L : List Sym} {w : World} {B : JB} {J : List Int} {nx : Int → Int} {sz : Nat → Int} (h : JC L B w J nx sz) {x : Int} (hx : UPart J x) : w.cell? (nxA B x) = some (.int .i64 (nx x)) ∧ w.frozen? (nxA B x) = false := by
  unfold nxA
  split
  · have := h.head.var (v := (-x).toNat) (by omega) (by have := hx.1; omega)
    rw [show -(((-x).toNat : Nat) : Int) = x by omega] at this
    exact this
  · have := h.same.cell (i := x.toNat) (by have := hx.2; omega)
    rw [show ((x.toNat : Nat) : Int) = x by omega] at this
    exact this
theorem JC.put {L : List Sym} {w : World} {B : JB} {J : List Int} {nx : Int → Int} {sz : Nat → Int} (h : JC L B w J nx sz) {x : Int} (hx : UPart J x) (v : Int) : JC L B (w.setCell (nxA B x) (.int .i64 v)) J (fun y => if y = x then v else nx y) sz ∧ Kept (fun k => k = nxB B x) w (w.setCell (nxA B x) (.int .i64 v)) := by
  have hk : Kept (fun k => k = nxB B x) w (w.setCell (nxA B x) (.int .i64 v)) := Kept.setCell (Kept.refl _ w) (fun _ => nxA_block B x) _
  refine ⟨?_, hk⟩
  have ap := h.ap
  by_cases hn : x < 0
  · have e1 : nxB B x = B.jb := by unfold nxB; rw [if_pos hn]
    have e2 : nxA B x = ⟨B.jb, 2 + (-x).toNat, none⟩ := by unfold nxA; rw [if_pos hn]
    have hh := h.head.set (v := (-x).toNat) (by omega) (by have := hx.1; omega) v
    rw [show -(((-x).toNat : Nat) : Int) = x by omega] at hh
    rw [e1] at hk
    rw [e2] at hk ⊢
    refine ⟨hh, h.list.kept hk (fun e => ap.a1 e.symm), h.ends.kept hk (fun e => ap.a2 e.symm), (h.same.kept hk (fun e => ap.a3 e.symm)).congr ?_, h.sizes.kept hk (fun e => ap.a4 e.symm), ap⟩
    intro i _; rw [if_neg (by omega)]
  · have e1 : nxB B x = B.sb := by unfold nxB; rw [if_neg hn]
    have e2 : nxA B x = ⟨B.sb, x.toNat, none⟩ := by unfold nxA; rw [if_neg hn]
    have hh := h.same.set x.toNat v
    rw [e1] at hk
    rw [e2] at hk ⊢
    refine ⟨(h.head.kept hk ap.a3).congr ?_, h.list.kept hk (fun e => ap.a5 e.symm), h.ends.kept hk (fun e => ap.a6 e.symm), hh.congr ?_, h.sizes.kept hk (fun e => ap.a7 e.symm), ap⟩
    · intro k h1 h2; rw [if_neg (by omega)]
    · intro i _
      by_cases e : i = x.toNat
      · rw [if_pos e, if_pos (by omega)]
      · rw [if_neg e, if_neg (by omega)]
/-- What is kept leads, step by step, to the leaders. -/
structure Led (J : List Int) (nx ld : Int → Int) (ρ : Int → Nat) : Prop where
  part : ∀ x, UPart J x → UPart J (nx x)
  lead : ∀ x, UPart J x → ld (nx x) = ld x
  stop : ∀ x, UPart J x → (nx x = x ↔ ld x = x)
  down : ∀ x, UPart J x → nx x ≠ x → ρ (nx x) < ρ x
theorem Led.halve {J : List Int} {nx ld : Int → Int} {ρ : Int → Nat} (h : Led J nx ld ρ) {x : Int} (hx : UPart J x) (hn : nx x ≠ x) : Led J (fun y => if y = x then nx (nx x) else nx y) ld ρ ∧ ρ (nx (nx x)) < ρ x := by
  have p1 := h.part x hx
  have d1 := h.down x hx hn
  have d2 : ρ (nx (nx x)) ≤ ρ (nx x) := by
    by_cases e : nx (nx x) = nx x
    · rw [e]; exact Nat.le_refl _
    · exact Nat.le_of_lt (h.down _ p1 e)
  refine ⟨⟨?_, ?_, ?_, ?_⟩, by omega⟩ <;> intro y hy <;> by_cases e : y = x
  · simp only [e, if_true]; exact h.part _ p1
  · simp only [e, if_false]; exact h.part _ hy
  · simp only [e, if_true]; rw [h.lead _ p1, h.lead _ hx]
  · simp only [e, if_false]; exact h.lead _ hy
  · simp only [e, if_true]
    refine ⟨fun f => ?_, fun f => absurd ((h.stop x hx).2 f) hn⟩
    rw [f] at d2; omega
  · simp only [e, if_false]; exact h.stop _ hy
  · simp only [e, if_true]; intro _; omega
  · simp only [e, if_false]; exact h.down _ hy
theorem Led.join {J : List Int} {nx ld : Int → Int} {ρ : Int → Nat} (h : Led J nx ld ρ) {p q : Int} (hp : UPart J p) (hq : UPart J q) (lp : ld p = p) (lq : ld q = q) (hpq : p ≠ q) : Led J (fun y => if y = p then q else nx y) (un p q ld) (fun x => ρ x + if ld x = p then ρ q + 1 else 0) := by
  have u1 : ∀ x, ld x = p → un p q ld x = q := fun x e => by unfold un; rw [if_pos e]
  have u2 : ∀ x, ld x ≠ p → un p q ld x = ld x := fun x e => by unfold un; rw [if_neg e]
  have lqp : ld q ≠ p := by rw [lq]; exact fun f => hpq f.symm
  refine ⟨?_, ?_, ?_, ?_⟩ <;> intro y hy <;> by_cases e : y = p
  · simp only [e, if_true]; exact hq
  · simp only [e, if_false]; exact h.part _ hy
  · simp only [e, if_true]; rw [u2 q lqp, u1 p lp, lq]
  · simp only [e, if_false]
    have := h.lead y hy
    unfold un; rw [this]
  · simp only [e, if_true]; rw [u1 p lp]
  · simp only [e, if_false]
    by_cases f : ld y = p
    · rw [u1 y f]
      refine ⟨fun g => ?_, fun g => ?_⟩
      · have := (h.stop y hy).1 g; rw [f] at this; exact absurd this.symm e
      · rw [← g, lq] at f; exact absurd f.symm hpq
    · rw [u2 y f]; exact h.stop y hy
  · simp only [e, if_true]; intro _; rw [if_neg lqp, if_pos lp]; omega
  · simp only [e, if_false]
    intro hn
    have := h.down y hy hn
    rw [h.lead y hy]; omega
/-- A joint whose parts have these leaders. -/
def JAt (L : List Sym) (B : JB) (w : World) (J : List Int) (ld : Int → Int) (sz : Nat → Int) : Prop := ∃ nx ρ, JC L B w J nx sz ∧ Led J nx ld ρ
theorem JAt.kept {L : List Sym} {S : Nat → Prop} {w w' : World} {B : JB} {J : List Int} {ld : Int → Int} {sz : Nat → Int} (h : JAt L B w J ld sz) (hk : Kept S w w') (hs : ∀ k, B.Foot k → ¬ S k) : JAt L B w' J ld sz := by
  obtain ⟨nx, ρ, h1, h2⟩ := h
  exact ⟨nx, ρ, h1.kept hk hs, h2⟩
theorem unext_any {L : List Sym} {w : World} {B : JB} {J : List Int} {nx : Int → Int} {sz : Nat → Int} (h : JC L B w J nx sz) {x : Int} (hx : UPart J x) :
    Calls Try.prog 66 #[.pointer (some ⟨B.jb, 0, none⟩), .int .i64 x] w fun e w' => e = .returned (.pointer (some (nxA B x))) ∧ w' = w := by
  obtain ⟨c0, c1, c2, c3, c4⟩ := h.head.cells
  have h1 := hx.1
  have h2 := hx.2
  clear h hx
  by_cases hn : x < 0
  · obtain ⟨v, hv⟩ : ∃ v : Nat, x = -(v : Int) := ⟨(-x).toNat, by omega⟩
    subst hv
    have e : nxA B (-(v : Int)) = ⟨B.jb, 2 + v, none⟩ := by unfold nxA; rw [if_pos hn]; congr 2; omega
    rw [e]
    have i1 : (0 : Int) ≤ (v : Int) := by omega
    have i2 : (v : Int) < 199 := by omega
    go_enter Try.func66, Try.ntmps66
    go_wp2
    go_returns
    exact ⟨rfl, rfl⟩
  · obtain ⟨v, hv⟩ : ∃ v : Nat, x = (v : Int) := ⟨x.toNat, by omega⟩
    subst hv
    have e : nxA B (v : Int) = ⟨B.sb, v, none⟩ := by unfold nxA; rw [if_neg hn]; congr 1
    rw [e]
    have i1 : (0 : Int) ≤ (v : Int) := by omega
    go_enter Try.func66, Try.ntmps66
    go_wp2
    go_returns
    exact ⟨rfl, rfl⟩
end Go.Proofs.Ythhcnllabhfejaa
