/- The writer of package unify in memory; variables numbered as they come; the walk of writeVariable. -/
import Derived.Test.YthhcnllabhfejaaUniMem
import Derived.Test.YthhcnllabhfejaaTermArgs
import Derived.Deep.RegionLaw
import Derived.Deep.LoopGhost
import Derived.Deep.CutRange
import Derived.BigRegion
namespace Go.Proofs.Ythhcnllabhfejaa
set_option maxRecDepth 100000
set_option linter.unusedVariables false
open Go.RowKit
attribute [local go_sem ↓] Go.wp_at_zero Go.wp_at_succ
/-! ### in plain words -/
/-- The variables met, when x comes. -/
def vzs (o : List Int) (x : Int) : List Int := if x < 0 ∧ ¬ x ∈ o then o ++ [x] else o
def vz (o t : List Int) : List Int := t.foldl vzs o
def rn (o : List Int) (x : Int) : Int := if x < 0 then -((o.idxOf x : Int) + 1) else x
/-- What is written of a list. -/
def wrF (o : List Int) : List Int → List Int
  | [] => []
  | x :: r => rn (vzs o x) x :: wrF (vzs o x) r
theorem wrF_append (o a b : List Int) : wrF o (a ++ b) = wrF o a ++ wrF (vz o a) b := by
  induction a generalizing o with
  | nil => rfl
  | cons x r ih => simp only [List.cons_append, wrF, ih]; rfl
theorem vz_append (o a b : List Int) : vz o (a ++ b) = vz (vz o a) b := by simp [vz]
theorem wrF_length (o a : List Int) : (wrF o a).length = a.length := by
  induction a generalizing o with
  | nil => rfl
  | cons x r ih => simp [wrF, ih]
theorem vzs_len (o : List Int) (x : Int) : (vzs o x).length ≤ o.length + 1 := by unfold vzs; split <;> simp
theorem idx_mem {o : List Int} {x : Int} (h : x ∈ o) (l : List Int) : (o ++ l).idxOf x = o.idxOf x := by
  rw [List.idxOf_append, if_pos h]
theorem idx_new {o : List Int} {x : Int} (h : ¬ x ∈ o) : (o ++ [x]).idxOf x = o.length := by
  rw [List.idxOf_append, if_neg h]; simp
theorem idx_lt {o : List Int} {x : Int} (h : x ∈ o) : o.idxOf x < o.length := List.idxOf_lt_length_of_mem h
/-- The number of a variable; 0: not met. -/
def nmO (o : List Int) (v : Nat) : Int := if -(v : Int) ∈ o then (o.idxOf (-(v : Int)) : Int) + 1 else 0
theorem nmO_new {o : List Int} {v : Nat} (h1 : 1 ≤ v) (h : ¬ -(v : Int) ∈ o) (u : Nat) : nmO (vzs o (-(v : Int))) u = if u = v then (o.length : Int) + 1 else nmO o u := by
  unfold vzs
  rw [if_pos ⟨by omega, h⟩]
  unfold nmO
  by_cases e : u = v
  · subst e
    rw [if_pos rfl, if_pos (by simp), idx_new h]
  · rw [if_neg e]
    by_cases hu : -(u : Int) ∈ o
    · rw [if_pos (by simp [hu]), if_pos hu, idx_mem hu]
    · rw [if_neg hu, if_neg (by simp [hu]; omega)]
theorem rn_new {o : List Int} {v : Nat} (h1 : 1 ≤ v) (h : ¬ -(v : Int) ∈ o) : rn (vzs o (-(v : Int))) (-(v : Int)) = -((o.length : Int) + 1) := by
  unfold rn vzs
  rw [if_pos (by omega), if_pos ⟨by omega, h⟩, idx_new h]
theorem rn_old {o : List Int} {v : Nat} (h1 : 1 ≤ v) (h : -(v : Int) ∈ o) : vzs o (-(v : Int)) = o ∧ rn o (-(v : Int)) = -nmO o v := by
  unfold rn vzs nmO
  rw [if_neg (fun f => f.2 h), if_pos (by omega), if_pos h]
  exact ⟨rfl, rfl⟩
/-! ### in memory -/
def WH (w : World) (wb jb : Nat) (v : Value) (nm : Nat → Int) (last : Int) : Prop := ∃ cs, w.heap[wb]? = some (.cells cs 79 (0, 0)) ∧ cs.size = 202 ∧ cs[0]? = some (.pointer (some ⟨jb, 0, none⟩)) ∧ cs[1]? = some v ∧ (∀ u, 1 ≤ u → u < 199 → cs[2 + u]? = some (.int .i64 (nm u))) ∧ cs[201]? = some (.int .i64 last)
theorem WH.kept {S : Nat → Prop} {w w' : World} {wb jb : Nat} {v : Value} {nm : Nat → Int} {last : Int} (h : WH w wb jb v nm last) (hk : Kept S w w') (hs : ¬ S wb) : WH w' wb jb v nm last := by
  obtain ⟨cs, h1, h2⟩ := h
  exact ⟨cs, hk.at h1 hs, h2⟩
theorem WH.cells {w : World} {wb jb : Nat} {v : Value} {nm : Nat → Int} {last : Int} (h : WH w wb jb v nm last) : w.cell? ⟨wb, 0, none⟩ = some (.pointer (some ⟨jb, 0, none⟩)) ∧ w.cell? ⟨wb, 1, none⟩ = some v ∧ w.cell? ⟨wb, 201, none⟩ = some (.int .i64 last) ∧ w.frozen? ⟨wb, 1, none⟩ = false ∧ w.frozen? ⟨wb, 201, none⟩ = false ∧ wb < w.heap.size := by
  obtain ⟨cs, h1, h2, h3, h4, h5, h6⟩ := h
  exact ⟨by rw [cellAt h1]; exact h3, by rw [cellAt h1]; exact h4, by rw [cellAt h1]; exact h6, frozenAt h1 _, frozenAt h1 _, lt_of_at h1⟩
theorem WH.num {w : World} {wb jb : Nat} {v : Value} {nm : Nat → Int} {last : Int} (h : WH w wb jb v nm last) {u : Nat} (h1 : 1 ≤ u) (h2 : u < 199) : w.cell? ⟨wb, 2 + u, none⟩ = some (.int .i64 (nm u)) ∧ w.frozen? ⟨wb, 2 + u, none⟩ = false := by
  obtain ⟨cs, g1, g2, g3, g4, g5, g6⟩ := h
  exact ⟨by rw [cellAt g1]; exact g5 u h1 h2, frozenAt g1 _⟩
theorem WH.setT {w : World} {wb jb : Nat} {v : Value} {nm : Nat → Int} {last : Int} (h : WH w wb jb v nm last) (v' : Value) : WH (w.setCell ⟨wb, 1, none⟩ v') wb jb v' nm last := by
  obtain ⟨cs, g1, g2, g3, g4, g5, g6⟩ := h
  refine ⟨_, setAt g1 _ _, by simpa using g2, ?_, ?_, ?_, ?_⟩
  · rw [Array.getElem?_setIfInBounds, if_neg (by omega)]; exact g3
  · rw [Array.getElem?_setIfInBounds, if_pos rfl, if_pos (by omega)]
  · intro k hk1 hk2
    rw [Array.getElem?_setIfInBounds, if_neg (by omega)]; exact g5 k hk1 hk2
  · rw [Array.getElem?_setIfInBounds, if_neg (by omega)]; exact g6
theorem WH.setLast {w : World} {wb jb : Nat} {v : Value} {nm : Nat → Int} {last : Int} (h : WH w wb jb v nm last) (x : Int) : WH (w.setCell ⟨wb, 201, none⟩ (.int .i64 x)) wb jb v nm x := by
  obtain ⟨cs, g1, g2, g3, g4, g5, g6⟩ := h
  refine ⟨_, setAt g1 _ _, by simpa using g2, ?_, ?_, ?_, ?_⟩
  · rw [Array.getElem?_setIfInBounds, if_neg (by omega)]; exact g3
  · rw [Array.getElem?_setIfInBounds, if_neg (by omega)]; exact g4
  · intro k hk1 hk2
    rw [Array.getElem?_setIfInBounds, if_neg (by omega)]; exact g5 k hk1 hk2
  · rw [Array.getElem?_setIfInBounds, if_pos rfl, if_pos (by omega)]
theorem WH.setNum {w : World} {wb jb : Nat} {v : Value} {nm : Nat → Int} {last : Int} (h : WH w wb jb v nm last) {u : Nat} (h1 : 1 ≤ u) (h2 : u < 199) (x : Int) : WH (w.setCell ⟨wb, 2 + u, none⟩ (.int .i64 x)) wb jb v (fun k => if k = u then x else nm k) last := by
  obtain ⟨cs, g1, g2, g3, g4, g5, g6⟩ := h
  refine ⟨_, setAt g1 _ _, by simpa using g2, ?_, ?_, ?_, ?_⟩
  · rw [Array.getElem?_setIfInBounds, if_neg (by omega)]; exact g3
  · rw [Array.getElem?_setIfInBounds, if_neg (by omega)]; exact g4
  · intro k hk1 hk2
    rw [Array.getElem?_setIfInBounds]
    by_cases e : k = u
    · subst e; rw [if_pos rfl, if_pos (by omega)]; simp
    · rw [if_neg (by omega)]; simp only [e, if_false]; exact g5 k hk1 hk2
  · rw [Array.getElem?_setIfInBounds, if_neg (by omega)]; exact g6
theorem WH.congr {w : World} {wb jb : Nat} {v : Value} {nm nm' : Nat → Int} {last : Int} (h : WH w wb jb v nm last) (e : ∀ u, 1 ≤ u → u < 199 → nm u = nm' u) : WH w wb jb v nm' last := by
  obtain ⟨cs, g1, g2, g3, g4, g5, g6⟩ := h
  exact ⟨cs, g1, g2, g3, g4, fun u a b => by rw [g5 u a b, e u a b], g6⟩
/-- append of one number where there is room, in a region that draws its order. -/
theorem step_fits {ops : Array Oper} {o : Oper} {a : Act} {w : World} {K : Act → World → Prop} {Q : Exit → Act → World → Prop} {E : Prop} (hgd : o.guard = none) (s x : Operand) (t : TypeId) (hop : o.op = Op.call { callee := Callee.builtin Builtin.append, args := #[s, x], argTypes := #[t, t] })
    (base : Nat) (e : TypeId) (i : TypeInfo) (size : Nat) (h1 : Try.prog.underlying t = some (.slice e)) (h2 : Try.prog.info? e = some i) (h4 : i.size = size)
    (g k cap : Nat) (xs : List Value) (hs : a.eval s = .slice (some ⟨g, 0, none⟩) k cap) (hown : w.ownsRow base e size (.slice (some ⟨g, 0, none⟩) k cap) k xs) (ad : Addr) (m c : Nat) (news : List Value) (hx : a.eval x = .slice (some ad) m c) (hn : news.length = m * size)
    (hc : ∀ j u, news[j]? = some u → w.cell? (ad.add j) = some u) (h1c : ∀ u ∈ news, u.oneCell' = true) (b1 : k + m ≤ cap)
    (hK : ∀ w', w'.ownsRow base e size (.slice (some ⟨g, 0, none⟩) (k + m) cap) (k + m) (xs ++ news) → w.grownBy w' (some g) → K (a.put o.dst (.slice (some ⟨g, 0, none⟩) (k + m) cap)) w') :
    if Region.wanted o (yielded ops a.tmps) = true then Oper.wp Try.prog o a w K Q else E := by
  have hw : Region.wanted o (yielded ops a.tmps) = true := by simp [Region.wanted, hgd]
  rw [if_pos hw]
  obtain ⟨w', hrun, r1, r2⟩ := run_append_fits (P := Try.prog) w base t o.type e i size h1 h2 h4 g k cap xs hown ad m c news hn hc h1c b1
  unfold Oper.wp
  simp [execOp, hop, resolve, invoke, builtin, hs, hx, hrun, Result.andThen]
  exact hK w' r1 r2
/-- What is written so far. -/
structure WC (base : Nat) (w : World) (wb jb tb cap : Nat) (out o : List Int) : Prop where
  head : WH w wb jb (.slice (some ⟨tb, 0, none⟩) out.length cap) (nmO o) (o.length : Int)
  row : w.ownsRow base 3 1 (.slice (some ⟨tb, 0, none⟩) out.length cap) out.length (iv out)
  ne : tb ≠ wb
  len : o.length ≤ out.length
  cap : cap ≤ 2000
theorem WC.kept {S : Nat → Prop} {base : Nat} {w w' : World} {wb jb tb cap : Nat} {out o : List Int} (h : WC base w wb jb tb cap out o) (hk : Kept S w w') (h1 : ¬ S wb) (h2 : ¬ S tb) : WC base w' wb jb tb cap out o :=
  ⟨h.head.kept hk h1, hk.row h.row (fun k e => by simp [Value.ownBlock] at e; subst e; exact h2), h.ne, h.len, h.cap⟩
def WPut (base : Nat) (w : World) (wb jb tb cap : Nat) (out o : List Int) (w' : World) : Prop := WC base w' wb jb tb cap out o ∧ Kept (fun k => k = wb ∨ k = tb) w w'
/-- One number more. -/
theorem wput_end {base : Nat} {w w1 : World} {wb jb tb cap : Nat} {out o : List Int} {x : Int} (hH : WH w wb jb (.slice (some ⟨tb, 0, none⟩) out.length cap) (nmO (vzs o x)) ((vzs o x).length : Int)) (hne : tb ≠ wb) (hlen : o.length ≤ out.length) (hcap : cap ≤ 2000)
    (hr : w1.ownsRow base 3 1 (.slice (some ⟨tb, 0, none⟩) (out.length + 1) cap) (out.length + 1) (iv out ++ [.int .i64 (rn (vzs o x) x)])) (hk : Kept (fun k => k = tb) w w1) : WPut base w wb jb tb cap (out ++ [rn (vzs o x) x]) (vzs o x) (w1.setCell ⟨wb, 1, none⟩ (.slice (some ⟨tb, 0, none⟩) (out.length + 1) cap)) ∧ w1.cell? ⟨wb, 1, none⟩ = some (.slice (some ⟨tb, 0, none⟩) out.length cap) ∧ w1.frozen? ⟨wb, 1, none⟩ = false := by
  have hH1 := hH.kept hk (fun e => hne e.symm)
  have k2 : Kept (fun k => k = wb) w1 (w1.setCell ⟨wb, 1, none⟩ (.slice (some ⟨tb, 0, none⟩) (out.length + 1) cap)) := Kept.setCell (S := fun k => k = wb) (p := ⟨wb, 1, none⟩) (Kept.refl _ _) (fun _ => rfl) _
  have e1 : (out ++ [rn (vzs o x) x]).length = out.length + 1 := by simp
  have hl := vzs_len o x
  refine ⟨⟨⟨?_, ?_, hne, by rw [e1]; omega, hcap⟩, (hk.mono (fun _ _ e => .inr e)).trans k2 (fun _ _ e => .inl e)⟩, hH1.cells.2.1, hH1.cells.2.2.2.1⟩
  · rw [e1]; exact hH1.setT _
  · rw [e1, iv_append]
    exact k2.row hr (fun k e f => by simp [Value.ownBlock] at e; omega)
theorem info_intW : (Try.prog.info? 3).map (fun i => (i.zero, i.size, i.bytes)) = some (some (.int .i64 0), 1, 8) := by kernel_rfl
set_option maxHeartbeats 4000000 in
theorem writeVariable_any {base : Nat} {w : World} {wb jb tb cap : Nat} {out o : List Int} (h : WC base w wb jb tb cap out o) {v : Nat} (h1 : 1 ≤ v) (h2 : v < 199) (hfit : out.length + 1 ≤ cap) :
    Calls Try.prog 56 #[.pointer (some ⟨wb, 0, none⟩), .int .i64 (v : Int)] w fun e w' => (∃ x, e = .returned x) ∧ WPut base w wb jb tb cap (out ++ [rn (vzs o (-(v : Int))) (-(v : Int))]) (vzs o (-(v : Int))) w' := by
  obtain ⟨i0, hi0, hz0, hz1, hz2⟩ := info_parts info_intW
  obtain ⟨c0, c1, c2, c3, c4, c5⟩ := h.head.cells
  obtain ⟨n1, n2⟩ := h.head.num h1 h2
  have hlen := h.len
  have hcap := h.cap
  have j1 : (0 : Int) ≤ (v : Int) := by omega
  have j2 : (v : Int) < 199 := by omega
  obtain ⟨l, hl⟩ : ∃ l, out.length = l := ⟨_, rfl⟩
  have hol : (o.length : Int) ≤ 2000 := by omega
  by_cases hm : -(v : Int) ∈ o
  · obtain ⟨q1, q2⟩ := rn_old h1 hm
    rw [q1]
    have hid : o.idxOf (-(v : Int)) < o.length := idx_lt hm
    have hnm : nmO o v = (o.idxOf (-(v : Int)) : Int) + 1 := by unfold nmO; rw [if_pos hm]
    obtain ⟨z, hz⟩ : ∃ z, nmO o v = z := ⟨_, rfl⟩
    rw [hz] at q2 n1 hnm
    rw [q2]
    have hz1' : 1 ≤ z := by omega
    have hz2' : z ≤ 2000 := by omega
    have hwz : IntKind.i64.wrap (-z) = -z := by rw [IntKind.wrap_i64]; omega
    have PE : Hid (∀ w1, w1.ownsRow base 3 1 (.slice (some ⟨tb, 0, none⟩) (l + 1) cap) (l + 1) (iv out ++ [.int .i64 (IntKind.i64.wrap (-z))]) → (w.alloc (.cells #[.int .i64 (IntKind.i64.wrap (-z))] 3)).drew.grownBy w1 (some tb) → WPut base w wb jb tb cap (out ++ [-z]) o (w1.setCell ⟨wb, 1, none⟩ (.slice (some ⟨tb, 0, none⟩) (l + 1) cap)) ∧ w1.cell? ⟨wb, 1, none⟩ = some (.slice (some ⟨tb, 0, none⟩) l cap) ∧ w1.frozen? ⟨wb, 1, none⟩ = false) := by
      intro w1 hr hg
      rw [hwz] at hr hg
      have kg : Kept (fun k => k = tb) w w1 := Kept.grown (Kept.drew (Kept.alloc (Kept.refl _ w) _)) hg (fun k e _ => by simpa using e.symm)
      have hH : WH w wb jb (.slice (some ⟨tb, 0, none⟩) out.length cap) (nmO (vzs o (-(v : Int)))) ((vzs o (-(v : Int))).length : Int) := by rw [q1]; exact h.head
      have := wput_end hH h.ne h.len h.cap (by rw [q1, q2, hl]; exact hr) kg
      rw [q1, q2, hl] at this
      exact this
    have hrow := h.row
    rw [hl] at hrow c1 hfit
    clear h hl hz q2 q1 hid hnm hm hwz
    go_enter Try.func56, Try.ntmps56
    go_upto_region 3 with fail
    go_region_law (refine step_fits (by rfl) _ _ 25 (by rfl) base 3 i0 1 Try.underlying25 hi0 hz1 tb l cap (iv out) (by rfl) ((hrow.alloc _).drew) ⟨w.heap.size, 0, none⟩ 1 1 [.int .i64 (IntKind.i64.wrap (-z))] (by rfl) (by rfl) (World.news_of_block (cs := #[.int .i64 (IntKind.i64.wrap (-z))]) (t := 3) (fr := (0, 0)) (heap_alloc_new w _)) (by simp [Value.oneCell']) hfit ?_; intro w1 hown hgrow; obtain ⟨hP, g1, g2⟩ := PE.out w1 hown hgrow)
    all_goals
      go_wp2_with fail
      go_returns
      exact ⟨⟨_, rfl⟩, hP⟩
  · have q2 := rn_new h1 hm
    have n0 : nmO o v = 0 := by unfold nmO; rw [if_neg hm]
    rw [n0] at n1
    rw [q2]
    have hvl : (vzs o (-(v : Int))).length = o.length + 1 := by unfold vzs; rw [if_pos ⟨by omega, hm⟩]; simp
    obtain ⟨m, hmm⟩ : ∃ m : Int, (o.length : Int) = m := ⟨_, rfl⟩
    rw [hmm] at c2 q2 hol ⊢
    have hm0 : 0 ≤ m := by omega
    have hJ1 := h.head.setLast (m + 1)
    have k1 : Kept (fun k => k = wb ∨ k = tb) w (w.setCell ⟨wb, 201, none⟩ (.int .i64 (m + 1))) := Kept.setCell (S := fun k => k = wb ∨ k = tb) (p := ⟨wb, 201, none⟩) (Kept.refl _ _) (fun _ => .inl rfl) _
    have hrow := h.row
    have r1 : (w.setCell ⟨wb, 201, none⟩ (.int .i64 (m + 1))).ownsRow base 3 1 (.slice (some ⟨tb, 0, none⟩) out.length cap) out.length (iv out) := by
      have k1' : Kept (fun k => k = wb) w (w.setCell ⟨wb, 201, none⟩ (.int .i64 (m + 1))) := Kept.setCell (S := fun k => k = wb) (p := ⟨wb, 201, none⟩) (Kept.refl _ _) (fun _ => rfl) _
      exact k1'.row hrow (fun k e f => by simp [Value.ownBlock] at e; exact h.ne (by omega))
    have hne := h.ne
    clear h
    go_enter Try.func56, Try.ntmps56
    go_upto_region 2 with fail
    obtain ⟨w2, hw2⟩ : ∃ w2, w.setCell ⟨wb, 201, none⟩ (.int .i64 (m + 1)) = w2 := ⟨_, rfl⟩
    rw [hw2] at hJ1 k1 r1 ⊢
    clear hw2 c0 c1 c2 c3 c4 c5 n1 n2 hrow
    obtain ⟨c0, c1, c2, c3, c4, c5⟩ := hJ1.cells
    obtain ⟨n1, n2⟩ := hJ1.num h1 h2
    have hJ2 := hJ1.setNum h1 h2 (m + 1)
    have hJ3 : WH (w2.setCell ⟨wb, 2 + v, none⟩ (.int .i64 (m + 1))) wb jb (.slice (some ⟨tb, 0, none⟩) out.length cap) (nmO (vzs o (-(v : Int)))) ((vzs o (-(v : Int))).length : Int) := by
      rw [hvl, show ((o.length + 1 : Nat) : Int) = m + 1 by omega]
      refine hJ2.congr (fun u a b => ?_)
      rw [nmO_new h1 hm, ← hmm]
    have k2 : Kept (fun k => k = wb) w2 (w2.setCell ⟨wb, 2 + v, none⟩ (.int .i64 (m + 1))) := Kept.setCell (S := fun k => k = wb) (p := ⟨wb, 2 + v, none⟩) (Kept.refl _ _) (fun _ => rfl) _
    have r2 := k2.row r1 (fun k e f => by simp [Value.ownBlock] at e; omega)
    have K2 := k1.trans k2 (fun _ _ e => .inl e)
    have HH : Hid (WH (w2.setCell ⟨wb, 2 + v, none⟩ (.int .i64 (m + 1))).drew wb jb (.slice (some ⟨tb, 0, none⟩) out.length cap) (nmO (vzs o (-(v : Int)))) ((vzs o (-(v : Int))).length : Int) ∧ (w2.setCell ⟨wb, 2 + v, none⟩ (.int .i64 (m + 1))).drew.ownsRow base 3 1 (.slice (some ⟨tb, 0, none⟩) out.length cap) out.length (iv out) ∧ Kept (fun k => k = wb ∨ k = tb) w (w2.setCell ⟨wb, 2 + v, none⟩ (.int .i64 (m + 1))).drew) := ⟨hJ3.kept (S := fun _ => False) (Kept.drew (Kept.refl _ _)) (fun f => f), Kept.row (S := fun _ => False) (Kept.drew (Kept.refl _ _)) r2 (fun _ _ f => f), K2.drew⟩
    clear hJ1 hJ2 hJ3 k1 k2 r1 r2 K2
    go_region
    all_goals
      go_upto_region 3 with fail
      obtain ⟨w3, hw3⟩ : ∃ w3, (w2.setCell ⟨wb, 2 + v, none⟩ (.int .i64 (m + 1))).drew = w3 := ⟨_, rfl⟩
      rw [hw3] at HH ⊢
      clear hw3 c0 c1 c2 c3 c4 c5 n1 n2
      obtain ⟨a1, a2, a3⟩ := HH.out
      obtain ⟨c0, c1, c2, c3, c4, c5⟩ := a1.cells
      obtain ⟨n1, n2⟩ := a1.num h1 h2
      rw [nmO_new h1 hm, if_pos rfl, hmm] at n1
      have hwz : IntKind.i64.wrap (-(m + 1)) = -(m + 1) := by rw [IntKind.wrap_i64]; omega
      have PE : Hid (∀ w4, w4.ownsRow base 3 1 (.slice (some ⟨tb, 0, none⟩) (l + 1) cap) (l + 1) (iv out ++ [.int .i64 (IntKind.i64.wrap (-(m + 1)))]) → (w3.alloc (.cells #[.int .i64 (IntKind.i64.wrap (-(m + 1)))] 3)).drew.grownBy w4 (some tb) → WPut base w wb jb tb cap (out ++ [-(m + 1)]) (vzs o (-(v : Int))) (w4.setCell ⟨wb, 1, none⟩ (.slice (some ⟨tb, 0, none⟩) (l + 1) cap)) ∧ w4.cell? ⟨wb, 1, none⟩ = some (.slice (some ⟨tb, 0, none⟩) l cap) ∧ w4.frozen? ⟨wb, 1, none⟩ = false) := by
        intro w4 hr hg
        rw [hwz] at hr hg
        have kg : Kept (fun k => k = tb) w3 w4 := Kept.grown (Kept.drew (Kept.alloc (Kept.refl _ w3) _)) hg (fun k e _ => by simpa using e.symm)
        obtain ⟨b1, b2, b3⟩ := wput_end a1 hne hlen hcap (by rw [q2, hl]; exact hr) kg
        rw [q2, hl] at b1
        rw [hl] at b2
        exact ⟨⟨b1.1, a3.trans b1.2 (fun _ _ e => e)⟩, b2, b3⟩
      rw [hl] at a2 c1
      have hfit2 : l + 1 ≤ cap := by omega
      clear HH a1 a3 hl q2 hm hwz hvl hmm n0 hfit
      go_region_law (refine step_fits (by rfl) _ _ 25 (by rfl) base 3 i0 1 Try.underlying25 hi0 hz1 tb l cap (iv out) (by rfl) ((a2.alloc _).drew) ⟨w3.heap.size, 0, none⟩ 1 1 [.int .i64 (IntKind.i64.wrap (-(m + 1)))] (by rfl) (by rfl) (World.news_of_block (cs := #[.int .i64 (IntKind.i64.wrap (-(m + 1)))]) (t := 3) (fr := (0, 0)) (heap_alloc_new w3 _)) (by simp [Value.oneCell']) hfit2 ?_; intro w4 hown hgrow; obtain ⟨hP, g1, g2⟩ := PE.out w4 hown hgrow)
      all_goals
        go_wp2_with fail
        go_returns
        exact ⟨⟨_, rfl⟩, hP⟩
end Go.Proofs.Ythhcnllabhfejaa
