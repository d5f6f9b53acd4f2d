import Derived.Test.YtlemcinjalepkabGreatGRule06
import Derived.Laws.AppendOwnNone
import Derived.Test.YtlemcinjalepkabGreatGRule05
import Derived.Deep.WholeRow
/- The walks of the statements' helpers of layer 2: lent, kept, apart, places. -/
namespace Go.Proofs.YtlemcinjalepkabGreat
set_option linter.unusedVariables false
open Go.RowKit
attribute [local go_sem ↓] Go.wp_at_zero Go.wp_at_succ
theorem row_prefix {base g : Nat} {w : World} {xs ys : List Int} {m c : Nat} (h : Row base w (.slice (some ⟨g, 0, none⟩) m c) (xs ++ ys)) : IntsAt w (some ⟨g, 0, none⟩) xs := by
  obtain ⟨ao, cap, hv, hi, _, _⟩ := h.ints
  cases hv
  rcases hi with e | ⟨b, off, e, hlt, hc⟩
  · exact .inl (by simp at e; exact e.1)
  · cases e
    refine .inr ⟨_, _, rfl, hlt, fun i hi => ?_⟩
    have := hc i (by simp; omega)
    rwa [List.getElem_append_left hi] at this
/-- A row that is written over: nothing but its block has turned. -/
def Over (base g n : Nat) (w wr : World) : Prop := (∃ ys, wr.ownsRow base 3 1 (.slice (some ⟨g, 0, none⟩) n n) n ys) ∧ Kept (fun k => k = g) w wr
theorem Over.store {base g n : Nat} {w wr : World} (h : Over base g n w wr) (k : Nat) (u : Value) : Over base g n w (wr.setCell ⟨g, k, none⟩ u) := by
  obtain ⟨⟨ys, h1⟩, h2⟩ := h
  exact ⟨⟨_, (h1.stored k u).1⟩, h2.setCell (p := ⟨g, k, none⟩) (fun _ => rfl) u⟩
theorem Same0.after {w w5 w6 : World} {S : Nat → Prop} (h : Same0 w w5) (k : Kept S w5 w6) (hs : ∀ i, i < w.heap.size → ¬ S i) : Same0 w w6 :=
  Kept.trans h k (fun i hi e => (hs i hi e).elim)
def OverA (base : Nat) (v : Value) (B : Nat → Prop) (n : Nat) (w wr : World) : Prop := ∃ zs : List Int, zs.length = n ∧ Row base wr v zs ∧ (∀ k, v.ownBlock = some k → B k) ∧ Kept B w wr
theorem OverA.at {base : Nat} {ao : Option Addr} {cap n : Nat} {B : Nat → Prop} {w wr : World} (h : OverA base (.slice ao n cap) B n w wr) {k : Nat} (hk : k < n) : ∃ g, ao = some ⟨g, 0, none⟩ ∧ ∃ old, wr.cell? ⟨g, k, none⟩ = some old ∧ wr.frozen? ⟨g, k, none⟩ = false := by
  obtain ⟨zs, rfl, h1, _, _⟩ := h
  obtain ⟨g, cap', hv, _, _⟩ := h1.form (by omega)
  cases hv
  exact ⟨g, rfl, row_put h1 hk⟩
theorem OverA.store {base g : Nat} {cap n : Nat} {B : Nat → Prop} {w wr : World} (h : OverA base (.slice (some ⟨g, 0, none⟩) n cap) B n w wr) (k : Nat) (x : Int) : OverA base (.slice (some ⟨g, 0, none⟩) n cap) B n w (wr.setCell ⟨g, k, none⟩ (.int .i64 x)) := by
  obtain ⟨zs, rfl, h1, hB, h2⟩ := h
  refine ⟨zs.set k x, by simp, ?_, hB, h2.setCell (p := ⟨g, k, none⟩) (fun _ => hB g rfl) _⟩
  have := (h1.stored k (.int .i64 x)).1
  unfold Row
  rw [List.length_set]
  have e : iv (zs.set k x) = (iv zs).set k (.int .i64 x) := by simp [iv, List.map_set]
  rw [e]; exact this
end Go.Proofs.YtlemcinjalepkabGreat
/- The walks of the document's Sub and Put. -/
namespace Go.Proofs.YtlemcinjalepkabGreat
set_option linter.unusedVariables false
open Go.RowKit
attribute [local go_sem ↓] Go.wp_at_zero Go.wp_at_succ
/-- append of numbers that lie in memory to a row of the call's own. -/
theorem wpList_more {w0 : World} {ops : Array Oper} {rest : List Oper} {o : Oper} {a : Act} {Q : Exit → Act → World → Prop} (hgd : o.guard = none) (s x : Operand) (t : TypeId)
    (ho : o.op = .call { callee := .builtin .append, args := #[s, x], argTypes := #[t, t] }) (ht : Tryz.prog.underlying t = some (.slice 3))
    (base : Nat) (xs : List Int) (v : Value) (hs : a.eval s = v) (hr : Row base w0 v xs) (ys : List Int) (ad : Addr) (m c : Nat) (hx : a.eval x = .slice (some ad) m c) (hm : m = ys.length) (hy : IntsAt w0 (some ad) ys) (hb : base ≤ w0.heap.size) (hsz : (xs.length + ys.length) * 8 ≤ 140737488355328)
    (h : ∀ v' w', Row base w' v' (xs ++ ys) → Kept (fun k => v.ownBlock = some k) w0 w' → wpList Tryz.prog ops Q rest (a.put o.dst v') w') :
    wpList Tryz.prog ops Q (o :: rest) a w0 := by
  subst hm
  obtain ⟨i, hi, hz0, hz1, hz2⟩ := info_parts info_intT
  refine wpList_append_own _ hgd s x t ho base 3 i (.int .i64 0) 1 8 ht hi hz0 hz1 hz2 rfl (by decide) v xs.length (iv xs) hs hr ad ys.length c (iv ys) hx (by rw [iv_length]; omega) (fun j u hj => ?_) (iv_oneCell ys) (by unfold maxLen; omega) hsz hb ?_
  · obtain ⟨ad', e, hc⟩ := hy.src (by have := (List.getElem?_eq_some_iff.1 hj).1; omega)
    cases e
    exact hc j u hj
  · intro v' w' hown hgrow _
    refine h v' w' ?_ (Kept.grown (Kept.refl _ w0) hgrow (fun _ e _ => e))
    unfold Row; rw [iv_append, List.length_append]; exact hown
theorem row_empty (w : World) (base : Nat) (hb : base ≤ w.heap.size) {o : Obj} (ho : o = .cells #[] 3 (0, 0)) : Row base (w.alloc o) (.slice (some ⟨w.heap.size, 0, none⟩) 0 0) [] := by
  subst ho
  exact ⟨rfl, .inr ⟨w.heap.size, 0, #[], rfl, hb, heap_alloc_new w _, Nat.le_refl _, by unfold maxLen; omega, rfl, rfl⟩⟩
end Go.Proofs.YtlemcinjalepkabGreat
/- A table of what variables stand for, in memory; the walks of the smallest functions of package match, and of Equal and Clone of package slices. -/
namespace Go.Proofs.YtlemcinjalepkabGreat
set_option maxRecDepth 100000
set_option linter.unusedVariables false
open Go.RowKit
attribute [local go_sem ↓] Go.wp_at_zero Go.wp_at_succ
/-- The cells of a table: what stands there lies in blocks below N. -/
def TabV (N : Nat) (w : World) (cs : Array Value) (σ : Tb) : Prop := cs.size = 100 ∧ ∀ v, v < 100 → ∃ ao cap, cs[v]? = some (.slice ao (σ v).length cap) ∧ IntsAt w ao (σ v) ∧ (σ v).length ≤ cap ∧ (σ v = [] → ao = none ∧ cap = 0) ∧ ∀ a, ao = some a → a.block < N
theorem TabV.kept {N : Nat} {w w' : World} {cs : Array Value} {σ : Tb} {S : Nat → Prop} (h : TabV N w cs σ) (hk : Kept S w w') (hs : ∀ k, k < N → ¬ S k) : TabV N w' cs σ :=
  ⟨h.1, fun v hv => by obtain ⟨ao, cap, h1, h2, h3, h4, h5⟩ := h.2 v hv; exact ⟨ao, cap, h1, h2.kept hk (fun a e => hs _ (h5 a e)), h3, h4, h5⟩⟩
theorem TabV.same {N : Nat} {w w' : World} {cs : Array Value} {σ : Tb} (h : TabV N w cs σ) (hk : Same0 w w') : TabV N w' cs σ := h.kept hk (fun _ _ f => f)
theorem tab_zero (N : Nat) (w : World) : TabV N w (Array.replicate 100 (.slice none 0 0)) noT :=
  ⟨by simp, fun v hv => ⟨none, 0, by rw [Array.getElem?_replicate, if_pos hv]; rfl, .inl rfl, Nat.le_refl _, fun _ => ⟨rfl, rfl⟩, fun a e => by cases e⟩⟩
theorem eqnil (w : World) (a : Option Addr) (n c n' c' : Nat) : (binOp .eql 33 (.slice a n c) (.slice none n' c')).run Tryz.prog w = .ok (.bool a.isNone) w := Lib.run_eql_slice_nil w _ _ a n c n' c' Tryz.underlying33
theorem neqnil (w : World) (a : Option Addr) (n c n' c' : Nat) : (binOp .neq 33 (.slice a n c) (.slice none n' c')).run Tryz.prog w = .ok (.bool (!a.isNone)) w := run_neq_slice_nil_any w _ _ a n c n' c' Tryz.underlying33
/-! ### Equal -/
/-! ### part -/
def partL (σ : Tb) (n : Int) : List Int := if 0 ≤ n then [] else σ (-n).toNat
end Go.Proofs.YtlemcinjalepkabGreat
/- The walks of size, behind of package match, and of Clone of package slices. -/
namespace Go.Proofs.YtlemcinjalepkabGreat
set_option maxRecDepth 100000
set_option linter.unusedVariables false
open Go.RowKit
attribute [local go_sem ↓] Go.wp_at_zero Go.wp_at_succ
/-! ### size -/
/-- Each term that stands for a variable has at most so many numbers. -/
def Bnd (σ : Tb) : Prop := ∀ v, (σ v).length ≤ 2000
theorem part_len {σ : Tb} (hb : Bnd σ) (n : Int) : (partL σ n).length ≤ 2000 := by
  unfold partL
  split
  · simp
  · exact hb _
theorem inst_part (σ : Tb) (n : Int) : (inst σ n).length = max 1 (partL σ n).length := by
  rw [inst_len, partL]
  split <;> simp
theorem app_take {σ : Tb} {t : List Int} {k : Nat} (h : k < t.length) : appT σ (t.take (k + 1)) = appT σ (t.take k) ++ inst σ t[k] := by
  rw [take_one h, app_append, app_cons, app_nil, List.append_nil]
theorem app_le {σ : Tb} (hb : Bnd σ) (t : List Int) : (appT σ t).length ≤ 2000 * t.length := by
  induction t with
  | nil => simp [appT]
  | cons n t ih =>
    rw [app_cons, List.length_append, inst_part]
    have := part_len hb n
    simp only [List.length_cons]; omega
/-! ### behind -/
/-! ### Clone -/
set_option maxHeartbeats 2000000 in
theorem clone_term {w : World} {ao : Option Addr} {cap : Nat} {xs : List Int} (hx : IntsAt w ao xs) (hn : 0 < xs.length) (hsz : xs.length ≤ 2000) :
    Calls Tryz.prog 88 #[.slice ao xs.length cap] w fun e w' => ∃ v, e = .returned v ∧ Row w.heap.size w' v xs ∧ Same0 w w' := by
  obtain ⟨xb, off, rfl, hxb, hc⟩ := hx.get hn
  have k0 : Same0 w (w.alloc (.cells #[] 3)) := (Kept.refl _ w).alloc _
  have r0 : Row w.heap.size (w.alloc (.cells #[] 3)) (.slice (some ⟨w.heap.size, 0, none⟩) 0 0) [] := row_empty w _ (Nat.le_refl _) rfl
  have cI := hx.same k0
  have z0 := k0.size
  have hnil := eqnil
  go_enter Tryz.func88, Tryz.ntmps88
  go_wp2_with (first | (at_builtin; refine wpList_more rfl _ _ 33 rfl Tryz.underlying33 w.heap.size [] _ rfl r0 xs _ _ _ rfl rfl cI z0 (by simp; omega) ?_; intro v' w4 hr4 hk4))
  go_ret
  exact ⟨_, rfl, by simpa using hr4, k0.onto r0 hk4⟩
end Go.Proofs.YtlemcinjalepkabGreat
/- The walk of the function value with which package match goes along a term. -/
namespace Go.Proofs.YtlemcinjalepkabGreat
set_option maxRecDepth 100000
set_option linter.unusedVariables false
open Go.RowKit
attribute [local go_sem ↓] Go.wp_at_zero Go.wp_at_succ
theorem Kept.two {a A : Nat} {w w1 : World} (h : Kept (fun i => i = a) w w1) : Kept (fun i => i = a ∨ i = A) w w1 := h.mono (fun _ _ e => .inl e)
theorem scan_end {L : List Sym} {u : List Int} {k m : Nat} (h : scan L 1 (u.drop k) = some m) (hk : k ≤ u.length) : 0 < m ∧ k + m ≤ u.length ∧ headT L (u.drop k) = (u.take (k + m)).drop k ∧ ((u.take (k + m)).drop k).length = m := by
  have h1 := scan_pos (k := 0) h
  have h2 := (scan_need h).1
  rw [List.length_drop] at h2
  refine ⟨h1, by omega, ?_, by rw [List.length_drop, List.length_take]; omega⟩
  rw [headT, h, List.drop_take, Option.getD_some, show k + m - k = m by omega]
end Go.Proofs.YtlemcinjalepkabGreat
/- The walk of package match along a pattern: what its variables stand for. -/
namespace Go.Proofs.YtlemcinjalepkabGreat
set_option maxRecDepth 100000
set_option linter.unusedVariables false
open Go.RowKit
attribute [local go_sem ↓] Go.wp_at_zero Go.wp_at_succ
theorem Kept.setRow {S : Nat → Prop} {a w : World} (h : Kept S a w) {g : Nat} (hg : g < a.heap.size → S g) (cs : Array Value) : Kept S a (w.setRow g cs) :=
  h.trans (S' := fun k => k = g) ⟨rfl, rfl, rfl, by simp [World.setRow], fun k _ hn => by simp only [World.setRow, Array.getElem?_modify]; rw [if_neg (fun e => hn e.symm)]⟩ (fun i hi e => by subst e; exact hg hi)
theorem setRow_at {w : World} {g : Nat} {old cs : Array Value} {t : TypeId} {fr : Nat × Nat} (h : w.heap[g]? = some (.cells old t fr)) : (w.setRow g cs).heap[g]? = some (.cells cs t fr) := by
  simp [World.setRow, Array.getElem?_modify, h]
theorem run_loadCells_table {w : World} {g : Nat} {cs : Array Value} {t : TypeId} (hg : w.heap[g]? = some (.cells cs t (0, 0))) (h : cs.size = 100) : (loadCellsFrom ⟨g, 0, none⟩ 0 100 #[]).run Tryz.prog w = .ok cs w := by
  have := run_loadCells_list (P := Tryz.prog) w ⟨g, 0, none⟩ cs.toList (fun j v hv => by
    have hadd : (⟨g, 0, none⟩ : Addr).add j = ⟨g, j, none⟩ := by unfold Addr.add; split <;> simp_all
    rw [hadd, cellAt hg j]
    simpa using hv)
  simpa [loadCells, h] using this
theorem TabV.one {N : Nat} {w : World} {cs : Array Value} {σ : Tb} (h : TabV N w cs σ) : cs.all (·.oneCell') = true := by
  rw [Array.all_eq_true]
  intro i hi
  obtain ⟨ao, cap, h1, _⟩ := h.2 i (by have := h.1; omega)
  rw [Array.getElem?_eq_getElem hi] at h1
  simp only [Option.some.injEq] at h1
  rw [h1]; rfl
theorem bnd_upd {σ : Tb} (h : Bnd σ) {v : Nat} {x : List Int} (hx : x.length ≤ 2000) : Bnd (updT σ v x) := fun y => by
  unfold updT
  split
  · exact hx
  · exact h y
end Go.Proofs.YtlemcinjalepkabGreat
/- Rows of binds in memory; the walk of binds of package match. -/
namespace Go.Proofs.YtlemcinjalepkabGreat
set_option maxRecDepth 100000
set_option linter.unusedVariables false
open Go.RowKit
attribute [local go_sem ↓] Go.wp_at_zero Go.wp_at_succ
def bcells (l : List (Int × Value)) : List Value := l.flatMap (fun p => [.int .i64 p.1, p.2])
theorem bcells_snoc (l : List (Int × Value)) (p : Int × Value) : bcells (l ++ [p]) = bcells l ++ [.int .i64 p.1, p.2] := by simp [bcells]
theorem bcells_length (l : List (Int × Value)) : (bcells l).length = l.length * 2 := by
  induction l with
  | nil => rfl
  | cons x r ih => simp [bcells] at ih ⊢; omega
theorem bcells_at {l : List (Int × Value)} {i : Nat} (h : i < l.length) : (bcells l)[i * 2]? = some (.int .i64 l[i].1) ∧ (bcells l)[i * 2 + 1]? = some l[i].2 := by
  induction l generalizing i with
  | nil => simp at h
  | cons x r ih =>
    have e : bcells (x :: r) = .int .i64 x.1 :: x.2 :: bcells r := by simp [bcells]
    rw [e]
    cases i with
    | zero => simp
    | succ j =>
      obtain ⟨a, b⟩ := ih (i := j) (by simpa using h)
      have e1 : (j + 1) * 2 = j * 2 + 1 + 1 := by omega
      rw [e1]
      exact ⟨by simpa using a, by simpa using b⟩
end Go.Proofs.YtlemcinjalepkabGreat
/- Binds that lie in memory; the walk of tableOf of package match. -/
namespace Go.Proofs.YtlemcinjalepkabGreat
set_option maxRecDepth 100000
set_option linter.unusedVariables false
open Go.RowKit
attribute [local go_sem ↓] Go.wp_at_zero Go.wp_at_succ
/-- Binds that lie in memory. -/
def BindsAt (w : World) (lo : Option Addr) (bs : List Bd) : Prop :=
  bs = [] ∨ ∃ b off, lo = some ⟨b, off, none⟩ ∧ b < w.heap.size ∧ ∀ i (h : i < bs.length), w.cell? ⟨b, off + i * 2, none⟩ = some (.int .i64 bs[i].1) ∧ ∃ ao cap, w.cell? ⟨b, off + i * 2 + 1, none⟩ = some (.slice ao bs[i].2.length cap) ∧ IntsAt w ao bs[i].2 ∧ bs[i].2.length ≤ cap ∧ (ao = none → bs[i].2.length = 0 ∧ cap = 0)
theorem BindsAt.same {w w' : World} {lo : Option Addr} {bs : List Bd} (h : BindsAt w lo bs) (hk : Same0 w w') : BindsAt w' lo bs := by
  refine h.imp id ?_
  rintro ⟨b, off, rfl, hlt, hc⟩
  refine ⟨b, off, rfl, Nat.lt_of_lt_of_le hlt hk.size, fun i hi => ?_⟩
  obtain ⟨c1, ao, cap, c2, c3, c4, c5⟩ := hc i hi
  exact ⟨(hk.cell (p := ⟨b, off + i * 2, none⟩) hlt (fun f => f)).trans c1, ao, cap, (hk.cell (p := ⟨b, off + i * 2 + 1, none⟩) hlt (fun f => f)).trans c2, c3.same hk, c4, c5⟩
theorem BindsAt.get {w : World} {lo : Option Addr} {bs : List Bd} (h : BindsAt w lo bs) {i : Nat} (hi : i < bs.length) : ∃ b off ao cap, lo = some ⟨b, off, none⟩ ∧ b < w.heap.size ∧ w.cell? ⟨b, off + i * 2, none⟩ = some (.int .i64 bs[i].1) ∧ w.cell? ⟨b, off + i * 2 + 1, none⟩ = some (.slice ao bs[i].2.length cap) ∧ IntsAt w ao bs[i].2 ∧ bs[i].2.length ≤ cap ∧ (ao = none → bs[i].2.length = 0 ∧ cap = 0) := by
  rcases h with rfl | ⟨b, off, e, hlt, hc⟩
  · simp at hi
  · obtain ⟨c1, ao, cap, c2, c3, c4, c5⟩ := hc i hi
    exact ⟨b, off, ao, cap, e, hlt, c1, c2, c3, c4, c5⟩
/-- The table of some binds, or what is wrong with the first that may not be. -/
def tabF (L : List Sym) : List Bd → Tb → Except Int Tb
  | [], σ => .ok σ
  | b :: r, σ => if b.1 < 1 ∨ 99 < b.1 ∨ σ b.1.toNat ≠ [] then .error 50 else if checkE L b.2 ≠ 0 then .error (checkE L b.2) else tabF L r (updT σ b.1.toNat b.2)
theorem tab_bad {L : List Sym} {b : Bd} {r : List Bd} {σ : Tb} (h : b.1 < 1 ∨ 99 < b.1 ∨ σ b.1.toNat ≠ []) : tabF L (b :: r) σ = .error 50 := by rw [tabF, if_pos h]
theorem tab_check {L : List Sym} {b : Bd} {r : List Bd} {σ : Tb} (h : ¬ (b.1 < 1 ∨ 99 < b.1 ∨ σ b.1.toNat ≠ [])) (h2 : checkE L b.2 ≠ 0) : tabF L (b :: r) σ = .error (checkE L b.2) := by rw [tabF, if_neg h, if_pos h2]
theorem tab_go {L : List Sym} {b : Bd} {r : List Bd} {σ : Tb} (h : ¬ (b.1 < 1 ∨ 99 < b.1 ∨ σ b.1.toNat ≠ [])) (h2 : checkE L b.2 = 0) : tabF L (b :: r) σ = tabF L r (updT σ b.1.toNat b.2) := by rw [tabF, if_neg h, if_neg (by rw [h2]; simp)]
/-- Each takes one cell. -/
def OneAll (cs : Array Value) : Prop := cs.all (·.oneCell') = true
end Go.Proofs.YtlemcinjalepkabGreat
/- The walk of Apply of package match. -/
namespace Go.Proofs.YtlemcinjalepkabGreat
set_option maxRecDepth 100000
set_option linter.unusedVariables false
open Go.RowKit
attribute [local go_sem ↓] Go.wp_at_zero Go.wp_at_succ
def applyE (L : List Sym) (t : List Int) (bs : List Bd) : Int := if checkE L t ≠ 0 then checkE L t else match tabF L bs noT with | .error x => x | .ok σ => if 2000 < (appT σ t).length then 20 else 0
def applyA (L : List Sym) (t : List Int) (bs : List Bd) : List Int := if applyE L t bs = 0 then (match tabF L bs noT with | .ok σ => appT σ t | .error _ => []) else []
theorem tab_err_ne {L : List Sym} {bs : List Bd} {σ : Tb} {x : Int} (h : tabF L bs σ = .error x) : x ≠ 0 := by
  induction bs generalizing σ with
  | nil => simp [tabF] at h
  | cons b r ih =>
    rw [tabF] at h
    split at h
    · cases h; decide
    · split at h
      · cases h; assumption
      · exact ih h
theorem apply_check {L : List Sym} {t : List Int} {bs : List Bd} (h : checkE L t ≠ 0) : applyE L t bs = checkE L t ∧ applyA L t bs = [] := by
  have e : applyE L t bs = checkE L t := by rw [applyE, if_pos h]
  exact ⟨e, by rw [applyA, e, if_neg h]⟩
theorem apply_err {L : List Sym} {t : List Int} {bs : List Bd} {x : Int} (h : checkE L t = 0) (h2 : tabF L bs noT = .error x) : applyE L t bs = x ∧ applyA L t bs = [] := by
  have e : applyE L t bs = x := by rw [applyE, if_neg (by rw [h]; simp), h2]
  exact ⟨e, by rw [applyA, e, if_neg (tab_err_ne h2)]⟩
theorem apply_long {L : List Sym} {t : List Int} {bs : List Bd} {σ : Tb} (h : checkE L t = 0) (h2 : tabF L bs noT = .ok σ) (h3 : 2000 < (appT σ t).length) : applyE L t bs = 20 ∧ applyA L t bs = [] := by
  have e : applyE L t bs = 20 := by rw [applyE, if_neg (by rw [h]; simp), h2]; simp [h3]
  exact ⟨e, by rw [applyA, e, if_neg (by decide)]⟩
theorem apply_ok {L : List Sym} {t : List Int} {bs : List Bd} {σ : Tb} (h : checkE L t = 0) (h2 : tabF L bs noT = .ok σ) (h3 : ¬ 2000 < (appT σ t).length) : applyE L t bs = 0 ∧ applyA L t bs = appT σ t := by
  have e : applyE L t bs = 0 := by rw [applyE, if_neg (by rw [h]; simp), h2]; simp [h3]
  exact ⟨e, by rw [applyA, e, if_pos rfl, h2]⟩
theorem app_prefix (σ : Tb) (t : List Int) (k : Nat) : (appT σ (t.take k)).length ≤ (appT σ t).length := by
  have : appT σ t = appT σ (t.take k) ++ appT σ (t.drop k) := by rw [← app_append, List.take_append_drop]
  rw [this, List.length_append]; omega
theorem inst_none {σ : Tb} {n : Int} (h : partL σ n = []) : inst σ n = [n] := by
  unfold partL at h
  unfold inst
  by_cases h0 : 0 ≤ n
  · simp [h0]
  · rw [if_neg h0] at h; simp [h]
theorem inst_some {σ : Tb} {n : Int} (h : partL σ n ≠ []) : inst σ n = partL σ n := by
  unfold partL at h ⊢
  unfold inst
  by_cases h0 : 0 ≤ n
  · rw [if_pos h0] at h; exact absurd rfl h
  · rw [if_neg h0] at h ⊢; simp [h0, h]
end Go.Proofs.YtlemcinjalepkabGreat
/- The walk of Match of package match. -/
namespace Go.Proofs.YtlemcinjalepkabGreat
set_option maxRecDepth 100000
set_option linter.unusedVariables false
open Go.RowKit
attribute [local go_sem ↓] Go.wp_at_zero Go.wp_at_succ
def matchE (L : List Sym) (p t : List Int) (a : Int) : Int := if checkE L p ≠ 0 then checkE L p else placeE L t a
def matchS (L : List Sym) (p t : List Int) (a : Int) : Option Tb := if matchE L p t a = 0 then mw L p (subN L t a.toNat) noT else none
def matchB (L : List Sym) (p t : List Int) (a : Int) : List Bd := match matchS L p t a with | some σ => blN σ 100 | none => []
theorem match_bad {L : List Sym} {p t : List Int} {a : Int} (h : matchE L p t a ≠ 0) : matchS L p t a = none ∧ matchB L p t a = [] := by
  have h1 : matchS L p t a = none := by rw [matchS, if_neg h]
  exact ⟨h1, by rw [matchB, h1]⟩
end Go.Proofs.YtlemcinjalepkabGreat
/- What fits is made again, and an instance fits: in plain words; no program in sight. -/
namespace Go.Proofs.YtlemcinjalepkabGreat
set_option linter.unusedVariables false
/-- The variable's number of a negative one. -/
def vn (n : Int) : Nat := (-n).toNat
theorem mw_ext {L : List Sym} {p ts : List Int} {σ σ' : Tb} (he : Even L p ts) (h : mw L p ts σ = some σ') : ∀ v, σ v ≠ [] → σ' v = σ v := by
  induction p generalizing ts σ with
  | nil => simp [mw] at h; subst h; intros; rfl
  | cons n r ih =>
    obtain ⟨x, ts', rfl, h1, h2⟩ := he.cons
    intro v hv
    by_cases hn : 0 ≤ n
    · rw [mw_sym hn] at h
      by_cases e : x = n
      · rw [if_pos e] at h; exact ih (h1 hn e) h v hv
      · rw [if_neg e] at h; cases h
    · obtain ⟨m, g1, g2, g3, g4, g5, g6⟩ := h2 hn
      by_cases hs : σ (-n).toNat = []
      · rw [mw_new hn hs, g5] at h
        have hne : v ≠ (-n).toNat := fun e => hv (by rw [e]; exact hs)
        have := ih g6 h v (by rw [upd_else hne]; exact hv)
        rw [this, upd_else hne]
      · rw [mw_old hn hs, g5] at h
        split at h
        · exact ih g6 h v hv
        · cases h
theorem mw_made {L : List Sym} {p ts : List Int} {σ σ' : Tb} (he : Even L p ts) (h : mw L p ts σ = some σ') : appT σ' p = ts := by
  induction p generalizing ts σ with
  | nil => rw [he.nil]; rfl
  | cons n r ih =>
    obtain ⟨x, ts', rfl, h1, h2⟩ := he.cons
    by_cases hn : 0 ≤ n
    · rw [mw_sym hn] at h
      by_cases e : x = n
      · rw [if_pos e] at h
        rw [app_cons, ih (h1 hn e) h, inst, if_pos (.inl hn), e]; rfl
      · rw [if_neg e] at h; cases h
    · obtain ⟨m, g1, g2, g3, g4, g5, g6⟩ := h2 hn
      have hne : headT L (x :: ts') ≠ [] := fun e => by rw [e] at g5; simp at g5; omega
      have fin : σ' (-n).toNat = headT L (x :: ts') → appT σ' r = (x :: ts').drop m → appT σ' (n :: r) = x :: ts' := fun q1 q2 => by
        rw [app_cons, q2, inst, if_neg (by rw [q1]; simp [hne, hn]), q1, g4, List.take_append_drop]
      by_cases hs : σ (-n).toNat = []
      · rw [mw_new hn hs, g5] at h
        refine fin ?_ (ih g6 h)
        have := mw_ext g6 h (-n).toNat (by rw [upd_same]; exact hne)
        rw [this, upd_same]
      · rw [mw_old hn hs, g5] at h
        split at h
        · rename_i hq
          exact fin (by rw [mw_ext g6 h _ hs, hq]) (ih g6 h)
        · cases h
theorem mw_vars {L : List Sym} {p ts : List Int} {σ σ' : Tb} (he : Even L p ts) (h : mw L p ts σ = some σ') (v : Nat) : σ' v ≠ [] ↔ (σ v ≠ [] ∨ ∃ n ∈ p, n < 0 ∧ (-n).toNat = v) := by
  induction p generalizing ts σ with
  | nil => simp [mw] at h; subst h; simp
  | cons n r ih =>
    obtain ⟨x, ts', rfl, h1, h2⟩ := he.cons
    by_cases hn : 0 ≤ n
    · rw [mw_sym hn] at h
      by_cases e : x = n
      · rw [if_pos e] at h
        rw [ih (h1 hn e) h]
        constructor
        · rintro (q | ⟨y, q1, q2⟩)
          · exact .inl q
          · exact .inr ⟨y, List.mem_cons_of_mem _ q1, q2⟩
        · rintro (q | ⟨y, q1, q2, q3⟩)
          · exact .inl q
          · rcases List.mem_cons.1 q1 with q | q
            · subst q; omega
            · exact .inr ⟨y, q, q2, q3⟩
      · rw [if_neg e] at h; cases h
    · obtain ⟨m, g1, g2, g3, g4, g5, g6⟩ := h2 hn
      have hne : headT L (x :: ts') ≠ [] := fun e => by rw [e] at g5; simp at g5; omega
      have key : ∀ τ : Tb, (∀ u, τ u ≠ [] ↔ (σ u ≠ [] ∨ u = (-n).toNat)) → (σ' v ≠ [] ↔ (τ v ≠ [] ∨ ∃ n ∈ r, n < 0 ∧ (-n).toNat = v)) → (σ' v ≠ [] ↔ (σ v ≠ [] ∨ ∃ y ∈ n :: r, y < 0 ∧ (-y).toNat = v)) := fun τ q1 q2 => by
        rw [q2, q1]
        constructor
        · rintro ((q | q) | ⟨y, q3, q4⟩)
          · exact .inl q
          · exact .inr ⟨n, by simp, by omega, q.symm⟩
          · exact .inr ⟨y, List.mem_cons_of_mem _ q3, q4⟩
        · rintro (q | ⟨y, q3, q4, q5⟩)
          · exact .inl (.inl q)
          · rcases List.mem_cons.1 q3 with q | q
            · subst q; exact .inl (.inr q5.symm)
            · exact .inr ⟨y, q, q4, q5⟩
      by_cases hs : σ (-n).toNat = []
      · rw [mw_new hn hs, g5] at h
        refine key _ (fun u => ?_) (ih g6 h)
        by_cases e : u = (-n).toNat
        · subst e; rw [upd_same]; simp [hne]
        · rw [upd_else e]; simp [e]
      · rw [mw_old hn hs, g5] at h
        split at h
        · refine key σ (fun u => ?_) (ih g6 h)
          constructor
          · exact .inl
          · rintro (q | q)
            · exact q
            · rw [q]; exact hs
        · cases h
theorem sub_check {L : List Sym} {ts : List Int} {m : Nat} (hb : badE L ts = 0) (hl : ts.length ≤ 2000) (h : scan L 1 ts = some m) : checkE L (ts.take m) = 0 := by
  obtain ⟨h1, h2⟩ := scan_need h
  refine checkE_zero.2 ⟨by rw [List.length_take]; omega, ?_, h2⟩
  rw [badE_zero] at hb ⊢
  exact fun x hx => hb x (List.mem_of_mem_take hx)
theorem mw_good {L : List Sym} {p ts : List Int} {σ σ' : Tb} (he : Even L p ts) (hb : badE L ts = 0) (hl : ts.length ≤ 2000) (h : mw L p ts σ = some σ') (hσ : ∀ v, σ v ≠ [] → checkE L (σ v) = 0) : ∀ v, σ' v ≠ [] → checkE L (σ' v) = 0 := by
  induction p generalizing ts σ with
  | nil => simp [mw] at h; subst h; exact hσ
  | cons n r ih =>
    obtain ⟨x, ts', rfl, h1, h2⟩ := he.cons
    have hbd : ∀ m, badE L ((x :: ts').drop m) = 0 := fun m => by
      rw [badE_zero] at hb ⊢
      exact fun y hy => hb y (List.mem_of_mem_drop hy)
    by_cases hn : 0 ≤ n
    · rw [mw_sym hn] at h
      by_cases e : x = n
      · rw [if_pos e] at h
        exact ih (h1 hn e) (hbd 1) (by simp at hl; omega) h hσ
      · rw [if_neg e] at h; cases h
    · obtain ⟨m, g1, g2, g3, g4, g5, g6⟩ := h2 hn
      have hdl : ((x :: ts').drop m).length ≤ 2000 := by rw [List.length_drop]; omega
      by_cases hs : σ (-n).toNat = []
      · rw [mw_new hn hs, g5] at h
        refine ih g6 (hbd m) hdl h (fun v hv => ?_)
        by_cases e : v = (-n).toNat
        · subst e; rw [upd_same, g4]; exact sub_check hb hl g1
        · rw [upd_else e] at hv ⊢; exact hσ v hv
      · rw [mw_old hn hs, g5] at h
        split at h
        · exact ih g6 (hbd m) hdl h hσ
        · cases h
/-! ### the table of the binds told -/
def cutT (σ : Tb) (n : Nat) : Tb := fun v => if v < n then σ v else []
theorem tab_bl {L : List Sym} {σ : Tb} (h0 : σ 0 = []) (hg : ∀ v, σ v ≠ [] → checkE L (σ v) = 0) (n : Nat) (hn : n ≤ 100) (rest : List Bd) : tabF L (blN σ n ++ rest) noT = tabF L rest (cutT σ n) := by
  induction n generalizing rest with
  | zero => rw [blN_zero]; congr 1
  | succ n ih =>
    have hc : ∀ u, cutT σ (n + 1) u = if u = n then σ n else cutT σ n u := fun u => by
      unfold cutT
      by_cases e : u = n
      · subst e; simp
      · by_cases e2 : u < n
        · rw [if_pos (by omega), if_neg e, if_pos e2]
        · rw [if_neg (by omega), if_neg e, if_neg e2]
    by_cases hs : σ n = []
    · rw [blN_no hs, ih (by omega)]
      congr 1
      funext u
      rw [hc u]
      split
      · rename_i e; rw [e, hs]; simp [cutT]
      · rfl
    · have h1 : n ≠ 0 := fun e => hs (by rw [e]; exact h0)
      rw [blN_yes hs, List.append_assoc, ih (by omega)]
      rw [List.cons_append, List.nil_append, tab_go (by simp [cutT]; omega) (hg n hs)]
      congr 1
      funext u
      rw [hc u]
      simp [updT]
theorem bl_pair (σ : Tb) (n : Nat) : (blN σ n).Pairwise (fun a b => a.1 < b.1) := by
  induction n with
  | zero => simp [blN]
  | succ n ih =>
    by_cases hs : σ n = []
    · rw [blN_no hs]; exact ih
    · rw [blN_yes hs, List.pairwise_append]
      refine ⟨ih, by simp, fun a ha b hb => ?_⟩
      simp at hb; subst hb
      obtain ⟨y, hy, rfl, _⟩ := blN_mem ha
      simp; omega
theorem bl_rise {σ : Tb} {n i : Nat} (h : i + 1 < (blN σ n).length) : (blN σ n)[i].1 < (blN σ n)[i + 1].1 :=
  List.pairwise_iff_getElem.1 (bl_pair σ n) i (i + 1) (by omega) h (by omega)
theorem vs_from {o t : List Int} {v : Int} (h : v ∈ vs o t) : v ∈ o ∨ ∃ x ∈ t, isV x = true ∧ v = -x := by
  induction t generalizing o with
  | nil => exact .inl h
  | cons y r ih =>
    rcases ih (o := vstep o y) h with q | ⟨x, q1, q2⟩
    · unfold vstep at q
      split at q
      · rename_i hy
        rcases List.mem_append.1 q with q | q
        · exact .inl q
        · simp at q; exact .inr ⟨y, by simp, hy.1, q⟩
      · exact .inl q
    · exact .inr ⟨x, List.mem_cons_of_mem _ q1, q2⟩
theorem bl_mem_iff {σ : Tb} {n v : Nat} (hv : v < n) : ((v : Int), σ v) ∈ blN σ n ↔ σ v ≠ [] := by
  constructor
  · intro h
    obtain ⟨y, hy, e, hne⟩ := blN_mem h
    have : y = v := by have := congrArg Prod.fst e; simp at this; omega
    subst this; exact hne
  · intro h
    exact List.mem_map.2 ⟨v, by simp [h, hv], rfl⟩
/-- As many binds as variables. -/
theorem bl_count {σ : Tb} {p : List Int} (hp : ∀ x ∈ p, -99 ≤ x) (h : ∀ v, σ v ≠ [] ↔ ∃ n ∈ p, n < 0 ∧ (-n).toNat = v) : (blN σ 100).length = (varsL p).length := by
  have h1 : ((blN σ 100).map Prod.fst).Nodup := by
    rw [List.nodup_iff_pairwise_ne, List.pairwise_map]
    exact (bl_pair σ 100).imp (fun q => by omega)
  have h2 : (varsL p).Nodup := (neat_vs neat_nil p).1
  have h3 : ((blN σ 100).map Prod.fst).Perm (varsL p) := by
    rw [List.perm_ext_iff_of_nodup h1 h2]
    intro z
    constructor
    · intro hz
      obtain ⟨b, hb, rfl⟩ := List.mem_map.1 hz
      obtain ⟨v, hv, rfl, hne⟩ := blN_mem hb
      obtain ⟨n, hn, hn0, rfl⟩ := (h v).1 hne
      have := vs_mem (o := []) hn (isV_iff.2 ⟨hp n hn, by omega⟩)
      have e : (((-n).toNat : Nat) : Int) = -n := by omega
      simpa [e, varsL] using this
    · intro hz
      rcases vs_from hz with q | ⟨x, q1, q2, rfl⟩
      · simp at q
      · obtain ⟨q3, q4⟩ := isV_iff.1 q2
        have hne : σ (-x).toNat ≠ [] := (h _).2 ⟨x, q1, by omega, rfl⟩
        have := (bl_mem_iff (σ := σ) (n := 100) (v := (-x).toNat) (by omega)).2 hne
        exact List.mem_map.2 ⟨_, this, by simp; omega⟩
  have := h3.length_eq
  simpa using this
theorem fits_tab {L : List Sym} {p ts : List Int} {σ : Tb} (hp : ∀ x ∈ p, -99 ≤ x) (he : Even L p ts) (hb : badE L ts = 0) (hl : ts.length ≤ 2000) (h : mw L p ts noT = some σ) : tabF L (blN σ 100) noT = .ok σ ∧ (∀ v, σ v ≠ [] ↔ ∃ n ∈ p, n < 0 ∧ (-n).toNat = v) := by
  have hv : ∀ v, σ v ≠ [] ↔ ∃ n ∈ p, n < 0 ∧ (-n).toNat = v := fun v => by
    rw [mw_vars he h v]; simp [noT]
  have hg := mw_good he hb hl h (fun v q => by simp [noT] at q)
  have hz : ∀ v, 100 ≤ v ∨ v = 0 → σ v = [] := fun v q => Classical.byContradiction fun hne => by
    obtain ⟨n, hn, hn0, rfl⟩ := (hv v).1 hne
    have := hp n hn
    omega
  refine ⟨?_, hv⟩
  have := tab_bl (hz 0 (.inr rfl)) hg 100 (Nat.le_refl _) []
  rw [List.append_nil] at this
  rw [this]
  show Except.ok (cutT σ 100) = _
  congr 1
  funext v
  unfold cutT
  split
  · rfl
  · exact (hz v (.inl (by omega))).symm
theorem match_back {L : List Sym} {p t : List Int} {q : Nat} {σ : Tb} (h1 : checkE L p = 0) (h2 : placeE L t q = 0) (hS : matchS L p t q = some σ) :
    applyE L p (blN σ 100) = 0 ∧ applyA L p (blN σ 100) = subN L t q ∧ (blN σ 100).length = (varsL p).length := by
  obtain ⟨q', e, hq, h0, hl, hT⟩ := place_zero h2
  obtain rfl : q = q' := by omega
  obtain ⟨p1, p2, p3⟩ := checkE_zero.1 h1
  have pv : ∀ x ∈ p, -99 ≤ x := fun x hx => ((badE_zero.1 p2) x hx).2
  have hE : matchE L p t q = 0 := by simp [matchE, h1, h2]
  have hM : mw L p (subN L t q) noT = some σ := by
    rw [matchS, if_pos hE] at hS; exact hS
  have hev := even_term p3 (sub_need hT hq)
  have hlen : (subN L t q).length ≤ 2000 := by rw [sub_length hT hq]; have := endN_le hT hq; omega
  have hbad : badE L (subN L t q) = 0 := by
    have := (checkE_zero.1 h0).2.1
    rw [badE_zero] at this ⊢
    exact fun x hx => this x (List.mem_of_mem_take (List.mem_of_mem_drop hx))
  obtain ⟨f1, f2⟩ := fits_tab pv hev hbad hlen hM
  have hmade := mw_made hev hM
  obtain ⟨a1, a2⟩ := apply_ok h1 f1 (by rw [hmade]; omega)
  exact ⟨a1, by rw [a2, hmade], bl_count pv f2⟩
end Go.Proofs.YtlemcinjalepkabGreat
/- The walk of the document's Bound; that an instance fits, in plain words. -/
namespace Go.Proofs.YtlemcinjalepkabGreat
set_option maxRecDepth 100000
set_option linter.unusedVariables false
open Go.RowKit
attribute [local go_sem ↓] Go.wp_at_zero Go.wp_at_succ
theorem bound_round {bs : List Bd} {v : Int} {i : Nat} (h : boundL bs v = boundL (bs.drop i) v) (hi : i < bs.length) : boundL bs v = if bs[i].1 = v then some bs[i].2 else boundL (bs.drop (i + 1)) v := by
  rw [h, List.drop_eq_getElem_cons hi, bound_cons]
/-- No address: nothing there. -/
def NilOk (ao : Option Addr) (cap : Nat) (u : List Int) : Prop := ao = none → u.length = 0 ∧ cap = 0
theorem tab_bound {L : List Sym} {bs : List Bd} {τ σ : Tb} (h : tabF L bs τ = .ok σ) (v : Nat) : (τ v ≠ [] → σ v = τ v ∧ boundL bs (v : Int) = none) ∧ (τ v = [] → (boundL bs (v : Int) = none ∧ σ v = []) ∨ ∃ u, boundL bs (v : Int) = some u ∧ σ v = u ∧ checkE L u = 0 ∧ 1 ≤ v ∧ v ≤ 99) := by
  induction bs generalizing τ with
  | nil =>
    simp [tabF] at h; subst h
    exact ⟨fun _ => ⟨rfl, rfl⟩, fun q => .inl ⟨rfl, q⟩⟩
  | cons b r ih =>
    rw [tabF] at h
    split at h
    · cases h
    · rename_i hc
      split at h
      · cases h
      · rename_i hk
        have hk : checkE L b.2 = 0 := by simpa using hk
        have hne : b.2 ≠ [] := fun e => by
          have := isT_pos (checkE_zero.1 hk).2.2
          rw [e] at this; simp at this
        have hτ : τ b.1.toNat = [] := Classical.byContradiction fun q => hc (.inr (.inr q))
        have hlo : 1 ≤ b.1 := by omega
        have hhi : b.1 ≤ 99 := by omega
        obtain ⟨i1, i2⟩ := ih h
        rw [bound_cons]
        by_cases e : v = b.1.toNat
        · have e' : b.1 = (v : Int) := by omega
          obtain ⟨j1, j2⟩ := i1 (by rw [e, upd_same]; exact hne)
          rw [if_pos e']
          refine ⟨fun q => absurd (by rw [e]; exact hτ) q, fun _ => .inr ⟨b.2, rfl, ?_, hk, by omega, by omega⟩⟩
          rw [j1, e, upd_same]
        · have e' : ¬ b.1 = (v : Int) := by omega
          rw [if_neg e']
          rw [upd_else e] at i1 i2
          exact ⟨i1, i2⟩
theorem tab_no {L : List Sym} {bs : List Bd} {σ : Tb} (h : tabF L bs noT = .ok σ) (v : Nat) : (boundL bs (v : Int) = none ∧ σ v = []) ∨ ∃ u, boundL bs (v : Int) = some u ∧ σ v = u ∧ checkE L u = 0 ∧ 1 ≤ v ∧ v ≤ 99 := (tab_bound h v).2 rfl
theorem need_app {L : List Sym} {σ : Tb} (hg : ∀ v, σ v ≠ [] → IsT L (σ v)) (p : List Int) (k : Nat) : need L k (appT σ p) = need L k p := by
  induction p generalizing k with
  | nil => rfl
  | cons n r ih =>
    rw [app_cons]
    by_cases hn : 0 ≤ n ∨ σ (-n).toNat = []
    · rw [inst, if_pos hn]
      cases k with
      | zero => rfl
      | succ k => simp only [List.cons_append, List.nil_append, need]; exact ih _
    · rw [inst, if_neg hn]
      have hn0 : ¬ 0 ≤ n := fun q => hn (.inl q)
      have hne : σ (-n).toNat ≠ [] := fun q => hn (.inr q)
      have hT := hg _ hne
      rw [need_append]
      cases k with
      | zero =>
        cases hd : σ (-n).toNat with
        | nil => exact absurd hd hne
        | cons x y => simp [need]
      | succ k =>
        have := need_add hT k
        rw [Nat.add_comm 1 k, Nat.zero_add] at this
        rw [this, Option.bind_some, need, arN_neg hn0, Nat.add_zero]
        exact ih k
theorem app_mem {σ : Tb} {p : List Int} {x : Int} (h : x ∈ appT σ p) : x ∈ p ∨ ∃ v, σ v ≠ [] ∧ x ∈ σ v := by
  obtain ⟨n, hn, hx⟩ := List.mem_flatMap.1 h
  unfold inst at hx
  split at hx
  · simp at hx; subst hx; exact .inl hn
  · rename_i q
    exact .inr ⟨(-n).toNat, fun e => q (.inr e), hx⟩
theorem inst_mw {L : List Sym} {σ : Tb} (hg : ∀ v, σ v ≠ [] → IsT L (σ v)) {p : List Int} (hp : ∀ n ∈ p, n < 0 → σ (-n).toNat ≠ []) {τ : Tb} (hτ : ∀ v, τ v = [] ∨ τ v = σ v) : ∃ τ', mw L p (appT σ p) τ = some τ' ∧ ∀ v, τ' v = [] ∨ τ' v = σ v := by
  induction p generalizing τ with
  | nil => exact ⟨τ, rfl, hτ⟩
  | cons n r ih =>
    have hp' : ∀ n ∈ r, n < 0 → σ (-n).toNat ≠ [] := fun m hm => hp m (List.mem_cons_of_mem _ hm)
    rw [app_cons]
    by_cases hn : 0 ≤ n
    · rw [inst, if_pos (.inl hn), List.cons_append, List.nil_append, mw_sym hn, if_pos rfl]
      exact ih hp' hτ
    · have hne := hp n (by simp) (by omega)
      rw [inst, if_neg (by simp [hn, hne])]
      have hh : headT L (σ (-n).toNat ++ appT σ r) = σ (-n).toNat := by
        rw [headT, need_scan (hg _ hne)]; simp
      have hd : (σ (-n).toNat ++ appT σ r).drop (σ (-n).toNat).length = appT σ r := by simp
      by_cases hs : τ (-n).toNat = []
      · rw [mw_new hn hs, hh, hd]
        refine ih hp' (fun v => ?_)
        by_cases e : v = (-n).toNat
        · subst e; rw [upd_same]; exact .inr rfl
        · rw [upd_else e]; exact hτ v
      · rw [mw_old hn hs, hh, hd, if_pos ((hτ _).resolve_left hs)]
        exact ih hp' hτ
/-- What Apply tells may be matched against. -/
theorem inst_check {L : List Sym} {p : List Int} {bs : List Bd} {σ : Tb} (h1 : checkE L p = 0) (h2 : tabF L bs noT = .ok σ) (h3 : ¬ 2000 < (appT σ p).length) : checkE L (appT σ p) = 0 ∧ (∀ v, σ v ≠ [] → IsT L (σ v)) := by
  have hg : ∀ v, σ v ≠ [] → checkE L (σ v) = 0 := fun v hv => by
    rcases tab_no h2 v with ⟨_, q⟩ | ⟨u, _, q, hk, _⟩
    · exact absurd q hv
    · rw [q]; exact hk
  have hT : ∀ v, σ v ≠ [] → IsT L (σ v) := fun v hv => (checkE_zero.1 (hg v hv)).2.2
  obtain ⟨p1, p2, p3⟩ := checkE_zero.1 h1
  refine ⟨checkE_zero.2 ⟨by omega, ?_, ?_⟩, hT⟩
  · rw [badE_zero] at p2 ⊢
    intro x hx
    rcases app_mem hx with q | ⟨v, hv, q⟩
    · exact p2 x q
    · exact badE_zero.1 (checkE_zero.1 (hg v hv)).2.1 x q
  · show need L 1 _ = _
    rw [need_app hT]; exact p3
theorem inst_match {L : List Sym} {p : List Int} {bs : List Bd} {σ : Tb} (h1 : checkE L p = 0) (h2 : tabF L bs noT = .ok σ) (h3 : ¬ 2000 < (appT σ p).length) : matchE L p (appT σ p) 0 = 0 ∧ ((∀ v ∈ varsL p, boundL bs v ≠ none) → ∃ τ, matchS L p (appT σ p) 0 = some τ ∧ (blN τ 100).length = (varsL p).length ∧ ∀ b ∈ blN τ 100, boundL bs b.1 = some b.2 ∧ b.2.length ≤ 2000) := by
  obtain ⟨hc, hT⟩ := inst_check h1 h2 h3
  obtain ⟨p1, p2, p3⟩ := checkE_zero.1 h1
  obtain ⟨q1, q2, q3⟩ := checkE_zero.1 hc
  have hpos := isT_pos q3
  have pv : ∀ x ∈ p, -99 ≤ x := fun x hx => ((badE_zero.1 p2) x hx).2
  have hpl : placeE L (appT σ p) 0 = 0 := by
    unfold placeE
    rw [hc, if_neg (by simp), if_neg (by omega)]
  have hE : matchE L p (appT σ p) 0 = 0 := by simp [matchE, h1, hpl]
  refine ⟨hE, fun hall => ?_⟩
  have hb : ∀ n ∈ p, n < 0 → σ (-n).toNat ≠ [] := fun n hn hn0 => by
    have hv := vs_mem (o := []) hn (isV_iff.2 ⟨pv n hn, by omega⟩)
    have hnn := hall _ hv
    have e : -n = (((-n).toNat : Nat) : Int) := by omega
    rw [e] at hnn
    rcases tab_no h2 (-n).toNat with ⟨q, _⟩ | ⟨u, _, q, hk, _⟩
    · exact absurd q hnn
    · rw [q]
      intro e
      have := isT_pos (checkE_zero.1 hk).2.2
      rw [e] at this; simp at this
  have hsub : subN L (appT σ p) 0 = appT σ p := by
    rw [subN, endN_zero q3]; simp
  obtain ⟨τ, hm, ht⟩ := inst_mw hT hb (τ := noT) (fun v => .inl rfl)
  have hS : matchS L p (appT σ p) 0 = some τ := by
    rw [matchS, if_pos hE]
    show mw L p (subN L (appT σ p) 0) noT = _
    rw [hsub]; exact hm
  obtain ⟨f1, f2⟩ := fits_tab pv (even_term p3 q3) q2 q1 hm
  refine ⟨τ, hS, bl_count pv f2, fun b hb' => ?_⟩
  obtain ⟨v, hv, rfl, hne⟩ := blN_mem hb'
  have e := (ht v).resolve_left hne
  rcases tab_no h2 v with ⟨_, q⟩ | ⟨u, q1', q2', hk, _⟩
  · exact absurd (by rw [e]; exact q) hne
  · refine ⟨by rw [q1', e, q2'], ?_⟩
    simp only; rw [e, q2']; exact (checkE_zero.1 hk).1
end Go.Proofs.YtlemcinjalepkabGreat
/- The most general one: of all that two terms have in common. -/
namespace Go.Proofs.YtlemcinjalepkabGreat
set_option linter.unusedVariables false
/-! ### variables under other names -/
theorem vz_sub (o u : List Int) : o <+: vz o u := by
  induction u generalizing o with
  | nil => exact List.prefix_refl _
  | cons x r ih =>
    refine List.IsPrefix.trans ?_ (ih (vzs o x))
    unfold vzs
    split
    · exact List.prefix_append _ _
    · exact List.prefix_refl _
theorem vzs_mem {o : List Int} {x : Int} (h : x < 0) : x ∈ vzs o x := by
  unfold vzs
  split
  · simp
  · rename_i g; simp [h] at g; exact g
theorem wrF_map (o u : List Int) : wrF o u = u.map (rn (vz o u)) := by
  induction u generalizing o with
  | nil => rfl
  | cons x r ih =>
    have e : vz o (x :: r) = vz (vzs o x) r := rfl
    rw [wrF, ih, List.map_cons, e]
    congr 1
    unfold rn
    by_cases h : x < 0
    · rw [if_pos h, if_pos h, idx_prefix (vz_sub (vzs o x) r) (vzs_mem h)]
    · rw [if_neg h, if_neg h]
theorem vz_mem {o u : List Int} {x : Int} (h : x ∈ u) (hx : x < 0) : x ∈ vz o u := by
  induction u generalizing o with
  | nil => simp at h
  | cons y r ih =>
    rcases List.mem_cons.1 h with e | e
    · subst e; exact (vz_sub (vzs o x) r).subset (vzs_mem hx)
    · exact ih e
theorem vz_from {o u : List Int} {x : Int} (h : x ∈ vz o u) : x ∈ o ∨ (x ∈ u ∧ x < 0) := by
  induction u generalizing o with
  | nil => exact .inl h
  | cons y r ih =>
    rcases ih (o := vzs o y) h with e | ⟨e1, e2⟩
    · unfold vzs at e
      split at e
      · rename_i g
        rcases List.mem_append.1 e with f | f
        · exact .inl f
        · simp only [List.mem_cons, List.not_mem_nil, or_false] at f; subst f; exact .inr ⟨by simp, g.1⟩
      · exact .inl e
    · exact .inr ⟨by simp [e1], e2⟩
/-- Names that may be turned back. -/
structure Ren (f f' : Int → Int) (n : Int) : Prop where
  back : f' (f n) = n
  neg : n < 0 → f n < 0
  pos : 0 ≤ n → f n = n
theorem ren_mem {f f' : Int → Int} {o : List Int} {x : Int} (ho : ∀ n ∈ o, Ren f f' n) (hx : Ren f f' x) : f x ∈ o.map f ↔ x ∈ o := by
  rw [List.mem_map]
  constructor
  · rintro ⟨y, hy, e⟩
    have := congrArg f' e
    rw [(ho y hy).back, hx.back] at this
    rw [← this]; exact hy
  · intro h; exact ⟨x, h, rfl⟩
theorem ren_idx {f f' : Int → Int} : ∀ {o : List Int} {x : Int}, (∀ n ∈ o, Ren f f' n) → Ren f f' x → (o.map f).idxOf (f x) = o.idxOf x
  | [], x, _, _ => rfl
  | y :: r, x, ho, hx => by
    rw [List.map_cons, List.idxOf_cons, List.idxOf_cons, ren_idx (fun n hn => ho n (by simp [hn])) hx]
    by_cases e : y = x
    · subst e; simp
    · have : ¬ f y = f x := fun g => e (by have := congrArg f' g; rwa [(ho y (by simp)).back, hx.back] at this)
      have h1 : (y == x) = false := by simpa using e
      have h2 : (f y == f x) = false := by simpa using this
      rw [h1, h2]
theorem wrF_ren {f f' : Int → Int} (u : List Int) : ∀ (o : List Int), (∀ n ∈ o, Ren f f' n) → (∀ n ∈ u, Ren f f' n) → wrF (o.map f) (u.map f) = wrF o u := by
  induction u with
  | nil => intro o _ _; rfl
  | cons x r ih =>
    intro o ho hu
    have hx := hu x (by simp)
    have ev : vzs (o.map f) (f x) = (vzs o x).map f := by
      unfold vzs
      by_cases h : x < 0 ∧ ¬ x ∈ o
      · rw [if_pos h, if_pos ⟨hx.neg h.1, fun g => h.2 ((ren_mem ho hx).1 g)⟩]; simp
      · rw [if_neg h, if_neg (fun g => h ⟨by
          by_cases q : x < 0
          · exact q
          · have := hx.pos (by omega); omega, fun q => g.2 ((ren_mem ho hx).2 q)⟩)]
    have hv : ∀ n ∈ vzs o x, Ren f f' n := by
      intro n hn
      unfold vzs at hn
      split at hn
      · rcases List.mem_append.1 hn with q | q
        · exact ho n q
        · simp only [List.mem_cons, List.not_mem_nil, or_false] at q; subst q; exact hx
      · exact ho n hn
    rw [List.map_cons, wrF, wrF, ev, ih _ hv (fun n hn => hu n (by simp [hn]))]
    congr 1
    unfold rn
    by_cases h : x < 0
    · rw [if_pos h, if_pos (hx.neg h), ren_idx hv hx]
    · rw [if_neg h, if_neg (by rw [hx.pos (by omega)]; exact h), hx.pos (by omega)]
theorem sub_one {L : List Sym} {g : Int → List Int} : ∀ (u : List Int), (∀ n ∈ u, n < 0 → IsT L (g n)) → (subV g u).length = u.length → subV g u = u.map (fun n => if n < 0 then (g n).headD 0 else n)
  | [], _, _ => rfl
  | n :: r, h, e => by
    have h1 := subV_len r (fun m hm => h m (by simp [hm]))
    rw [subV_cons, List.length_append, List.length_cons] at e
    rw [subV_cons, List.map_cons]
    by_cases hn : n < 0
    · have h2 := isT_pos (h n (by simp) hn)
      rw [if_pos hn] at e ⊢
      rw [if_pos hn]
      have h3 : (g n).length = 1 := by omega
      obtain ⟨y, hy⟩ := List.length_eq_one_iff.1 h3
      rw [sub_one r (fun m hm => h m (by simp [hm])) (by omega), hy]; rfl
    · rw [if_neg hn] at e ⊢
      rw [if_neg hn]
      simp only [List.length_cons, List.length_nil] at e
      rw [sub_one r (fun m hm => h m (by simp [hm])) (by omega)]; rfl
/-- Each comes of the other: they are one, but for names. -/
theorem both_ways {L : List Sym} {u v : List Int} {g g' : Int → List Int} (h1 : ∀ n ∈ u, n < 0 → IsT L (g n)) (h2 : ∀ n ∈ v, n < 0 → IsT L (g' n)) (e1 : v = subV g u) (e2 : u = subV g' v) : wrF [] v = wrF [] u := by
  have l1 := subV_len u h1
  have l2 := subV_len v h2
  rw [← e1] at l1
  rw [← e2] at l2
  have m1 := sub_one u h1 (by rw [← e1]; omega)
  have m2 := sub_one v h2 (by rw [← e2]; omega)
  rw [← e1] at m1
  rw [← e2] at m2
  obtain ⟨f, hf⟩ : ∃ f : Int → Int, f = fun n => if n < 0 then (g n).headD 0 else n := ⟨_, rfl⟩
  obtain ⟨f', hf'⟩ : ∃ f : Int → Int, f = fun n => if n < 0 then (g' n).headD 0 else n := ⟨_, rfl⟩
  rw [← hf] at m1
  rw [← hf'] at m2
  have hb : ∀ n ∈ u, f' (f n) = n := by
    have : u = u.map (fun n => f' (f n)) := by rw [m1, List.map_map] at m2; exact m2
    intro n hn
    obtain ⟨i, hi, rfl⟩ := List.getElem_of_mem hn
    have h3 := congrArg (fun l => l[i]?) this
    simp only [List.getElem?_map, List.getElem?_eq_getElem hi, Option.map_some, Option.some.injEq] at h3
    exact h3.symm
  have hpos : ∀ n, 0 ≤ n → f n = n := fun n hn => by rw [hf]; simp only; rw [if_neg (by omega)]
  have hpos' : ∀ n, 0 ≤ n → f' n = n := fun n hn => by rw [hf']; simp only; rw [if_neg (by omega)]
  have hr : ∀ n ∈ u, Ren f f' n := fun n hn => ⟨hb n hn, fun hn0 => by
    by_cases q : f n < 0
    · exact q
    · have := hb n hn; rw [hpos' _ (by omega)] at this; omega, hpos n⟩
  have := wrF_ren u [] (by simp) hr
  rw [m1]; exact this
/-! ### most general -/
theorem subV_flat {α : Type} (f : Int → List Int) (g : α → List Int) (l : List α) : subV f (l.flatMap g) = l.flatMap (fun k => subV f (g k)) := by
  induction l with
  | nil => rfl
  | cons x r ih => rw [List.flatMap_cons, List.flatMap_cons, subV_append, ih]
theorem subV_sh (f : Int → List Int) {ap : Int} (h : 0 ≤ ap) (b : List Int) : subV f (b.map (shF ap)) = subV (fun n => f (n - ap)) b := by
  induction b with
  | nil => rfl
  | cons n r ih =>
    rw [List.map_cons, subV_cons, subV_cons, ih]
    congr 1
    unfold shF
    by_cases hn : n < 0
    · rw [if_pos hn, if_pos (by omega), if_pos hn]
    · rw [if_neg hn, if_neg hn, if_neg hn]
/-- The term that two have in common, if there is one. -/
def ComU (L : List Sym) (a b : List Int) (ap : Int) (u : List Int) : Prop := ∃ ld k, solF L (jl a b ap) a.length = some (ld, k) ∧ Closed L (jl a b ap) a.length ld ∧ Val L (jl a b ap) ld 0 u ∧ k = min (u.length : Int) 2001
theorem ComU.uniq {L : List Sym} {a b : List Int} {ap : Int} {u v : List Int} (h : ComU L a b ap u) (k : ComU L a b ap v) : u = v := by
  obtain ⟨ld, k1, h1, _, h2, _⟩ := h
  obtain ⟨ld', k2, g1, _, g2, _⟩ := k
  rw [h1] at g1
  simp only [Option.some.injEq, Prod.mk.injEq] at g1
  obtain ⟨rfl, rfl⟩ := g1
  exact h2.uniq g2
theorem ComU.com {L : List Sym} {a b : List Int} {ap : Int} {u : List Int} (ha : checkE L a = 0) (hb : checkE L b = 0) (h : ComU L a b ap u) : (2000 < u.length → comE L a b ap = 20) ∧ (u.length ≤ 2000 → comE L a b ap = 0 ∧ comT L a b ap = wrF [] u) := by
  obtain ⟨ld, k, h1, _, h2, h3⟩ := h
  have e : comE L a b ap = if 2000 < k then 20 else 0 := by
    unfold comE
    rw [if_neg (by simpa using ha), if_neg (by simpa using hb), h1]
  refine ⟨fun hl => by rw [e, if_pos (by omega)], fun hl => ?_⟩
  rw [if_neg (by omega)] at e
  refine ⟨e, ?_⟩
  unfold comT
  rw [if_pos e, h1]
  simp only
  rw [h2.tm (n := 2000) (by omega)]; rfl
theorem com_u {L : List Sym} {a b : List Int} {ap : Nat} (hap : ap ≤ 99) (ha : checkE L a = 0) (hb : checkE L b = 0) : solF L (jl a b ap) a.length = none ∨ ∃ u, ComU L a b ap u := by
  obtain ⟨x1, x2, x3⟩ := checkE_zero.1 ha
  obtain ⟨y1, y2, y3⟩ := checkE_zero.1 hb
  have hT := trs_jl (apart := (ap : Int)) (by omega) x3 y3
  have hv : ∀ x ∈ jl a b ap, -198 ≤ x := by
    intro x hx
    unfold jl at hx
    rcases List.mem_append.1 hx with e | e
    · have := (badE_zero.1 x2 x e).2; omega
    · obtain ⟨y, hy, rfl⟩ := List.mem_map.1 e
      have := (badE_zero.1 y2 y hy).2
      unfold shF; split <;> omega
  have p1 := isT_pos x3
  have p2 := isT_pos y3
  have hl : (jl a b ap).length = a.length + b.length := by simp [jl]
  cases hs : solF L (jl a b ap) a.length with
  | none => exact .inl rfl
  | some v =>
    obtain ⟨ld, k⟩ := v
    right
    obtain ⟨res, hU, hR1, hR2⟩ := (sol_any hT hv (m := a.length) (by omega) (by omega)).uni
    cases res with
    | none => rw [hR1 rfl] at hs; cases hs
    | some ld' =>
      obtain ⟨g1, k', sz', g2, g3, g4⟩ := hR2 ld' rfl
      by_cases e : k' = -1
      · rw [g3 e] at hs; cases hs
      · obtain ⟨f1, u, f2, f3⟩ := g4 e
        rw [f1] at hs
        simp only [Option.some.injEq, Prod.mk.injEq] at hs
        obtain ⟨rfl, rfl⟩ := hs
        exact ⟨u, ld', k', f1, closed_of hv (by omega) (by omega) hU, f2, f3⟩
theorem jl_low {L : List Sym} {a b : List Int} (ha : checkE L a = 0) (hb : checkE L b = 0) {ap : Nat} (hap : ap ≤ 99) : ∀ x ∈ jl a b ap, -198 ≤ x := by
  intro x hx
  unfold jl at hx
  rcases List.mem_append.1 hx with e | e
  · have := (badE_zero.1 (checkE_zero.1 ha).2.1 x e).2; omega
  · obtain ⟨y, hy, rfl⟩ := List.mem_map.1 e
    have := (badE_zero.1 (checkE_zero.1 hb).2.1 y hy).2
    unfold shF; split <;> omega
/-- What comes of both terms comes of the most general one. -/
theorem most_com {L : List Sym} {a b : List Int} (ha : checkE L a = 0) (hb : checkE L b = 0) {fa fb : Int → List Int} (ta : ∀ n ∈ a, n < 0 → IsT L (fa n)) (tb : ∀ n ∈ b, n < 0 → IsT L (fb n)) {T : List Int} (e1 : subV fa a = T) (e2 : subV fb b = T) :
    ∃ u g, ComU L a b 99 u ∧ T = subV g u ∧ (∀ n ∈ u, n < 0 → IsT L (g n)) := by
  obtain ⟨x1, x2, x3⟩ := checkE_zero.1 ha
  obtain ⟨y1, y2, y3⟩ := checkE_zero.1 hb
  have hT := trs_jl (apart := (99 : Int)) (by omega) x3 y3
  have hv : ∀ x ∈ jl a b 99, -198 ≤ x := jl_low ha hb (ap := 99) (by omega)
  have p1 := isT_pos x3
  have p2 := isT_pos y3
  have hl : (jl a b 99).length = a.length + b.length := by simp [jl]
  obtain ⟨vv, hvv⟩ : ∃ vv : Int → List Int, vv = fun n => if -99 ≤ n then (if n ∈ a then fa n else [n]) else (if n + 99 ∈ b then fb (n + 99) else [n]) := ⟨_, rfl⟩
  have vT : ∀ n, n < 0 → IsT L (vv n) := by
    intro n hn
    rw [hvv]
    simp only
    by_cases h : -99 ≤ n
    · rw [if_pos h]
      by_cases q : n ∈ a
      · rw [if_pos q]; exact ta n q hn
      · rw [if_neg q]; exact isT_var L hn
    · rw [if_neg h]
      by_cases q : n + 99 ∈ b
      · rw [if_pos q]; exact tb _ q (by omega)
      · rw [if_neg q]; exact isT_var L hn
  have va : subV vv a = T := by
    rw [← e1]
    refine subV_congr a (fun n hn h0 => ?_)
    rw [hvv]
    simp only
    rw [if_pos ((badE_zero.1 x2 n hn).2), if_pos hn]
  have vb : subV vv (b.map (shF 99)) = T := by
    rw [subV_sh vv (by omega), ← e2]
    refine subV_congr b (fun n hn h0 => ?_)
    rw [hvv]
    simp only
    rw [if_neg (by omega), if_pos (by rw [Int.sub_add_cancel]; exact hn), Int.sub_add_cancel]
  obtain ⟨val, hval⟩ : ∃ val : Int → List Int, val = fun x => if x < 0 then vv x else subV vv (cutJ L (jl a b 99) x.toNat) := ⟨_, rfl⟩
  have vn : ∀ n, n < 0 → val n = vv n := fun n hn => by rw [hval]; simp only; rw [if_pos hn]
  have vp : ∀ p : Nat, val p = subV vv (cutJ L (jl a b 99) p) := fun p => by rw [hval]; simp only; rw [if_neg (by omega), Int.toNat_natCast]
  have hg : Good L (jl a b 99) val := by
    refine ⟨fun p hp hs => ?_, fun p hp hs => ?_, fun x hx => ?_⟩
    · rw [vp, cut_sym hT hp, subV_cons, if_neg (by omega), subV_flat]
      simp only [vp]; rfl
    · rw [vp, cut_sym hT hp, subV_cons, if_pos hs, vn _ hs]
      have : kidsL L (jl a b 99) p = [] := by unfold kidsL; rw [show arN L (at' (jl a b 99) p) = 0 by unfold arN; rw [if_pos hs]]; rfl
      rw [this]; simp [subV]
    · by_cases h : x < 0
      · rw [vn x h]; exact vT x h
      · obtain ⟨p, rfl⟩ := Int.eq_ofNat_of_zero_le (Int.not_lt.1 h)
        have := vp p
        show IsT L (val (p : Int))
        rw [this]
        unfold IsT
        rw [need_subV _ (fun n _ hn => vT n hn)]
        exact cut_isT hT (by have := hx.2; omega)
  have c0 : val 0 = T := by
    have := vp 0
    rw [show ((0 : Nat) : Int) = 0 from rfl] at this
    rw [this, ← va]
    congr 1
    unfold cutJ
    rw [show endN L (jl a b 99) 0 = a.length from end_first (b := b.map (shF 99)) x3]
    unfold jl
    rw [List.drop_zero, Nat.sub_zero, List.take_left]
  have cm : val (a.length : Nat) = T := by
    rw [vp, ← vb]
    congr 1
    unfold cutJ
    rw [show endN L (jl a b 99) a.length = a.length + (b.map (shF 99)).length from end_second (a := a) (isT_sh (by omega) y3)]
    unfold jl
    rw [List.drop_left, Nat.add_sub_cancel_left, List.take_length]
  obtain ⟨ld, k, u, hs, hcl, hu, hk, he, _⟩ := sol_good hT hv (m := a.length) (by omega) (by omega) hg (by rw [c0, cm])
  refine ⟨u, val, ⟨ld, k, hs, hcl, hu, hk⟩, by rw [← c0]; exact he, fun n hn h0 => ?_⟩
  rw [vn n h0]; exact vT n h0
/-- It comes of both. -/
theorem inst_com {L : List Sym} {a b : List Int} (ha : checkE L a = 0) (hb : checkE L b = 0) {ap : Nat} (hap : ap ≤ 99) {u : List Int} (h : ComU L a b ap u) : ∃ f : Int → List Int, (∀ n, n < 0 → -198 ≤ n → IsT L (f n)) ∧ u = subV f a ∧ u = subV (fun n => f (n - ap)) b ∧ IsT L u ∧ (∀ n ∈ u, 0 ≤ n → n < (L.length : Int)) := by
  obtain ⟨x1, x2, x3⟩ := checkE_zero.1 ha
  obtain ⟨y1, y2, y3⟩ := checkE_zero.1 hb
  obtain ⟨ld, k, h1, hc, hu, h3⟩ := h
  have p1 := isT_pos x3
  have hl : (jl a b ap).length = a.length + b.length := by simp [jl]
  obtain ⟨f, hf⟩ := varT_some L (jl a b ap) ld
  obtain ⟨e1, e2⟩ := both_sub (by omega) x3 y3 hc hf hu
  have p0 : UPart (jl a b ap) 0 := part_nat (p := 0) (by omega)
  refine ⟨f, fun n hn h => hf.isT hc.trs hc.ok hn ⟨h, by omega⟩, e1, by rw [← subV_sh f (by omega)]; exact e2, hu.isT hc.trs hc.ok p0, fun n hn h0 => ?_⟩
  rcases hu.in hc.trs hc.ok p0 n hn with ⟨q, _⟩ | ⟨_, q⟩
  · omega
  · unfold jl at q
    rcases List.mem_append.1 q with e | e
    · exact (badE_zero.1 x2 n e).1
    · obtain ⟨y, hy, hy2⟩ := List.mem_map.1 e
      have := (badE_zero.1 y2 y hy).1
      unfold shF at hy2
      split at hy2 <;> omega
/-- The other way round it is the same. -/
theorem com_swap {L : List Sym} {a b : List Int} (ha : checkE L a = 0) (hb : checkE L b = 0) {u : List Int} (h : ComU L b a 99 u) : ∃ v, ComU L a b 99 v ∧ v.length = u.length ∧ wrF [] u = wrF [] v := by
  have step : ∀ (a b : List Int), checkE L a = 0 → checkE L b = 0 → ∀ u, ComU L b a 99 u → ∃ v g, ComU L a b 99 v ∧ u = subV g v ∧ (∀ n ∈ v, n < 0 → IsT L (g n)) := by
    intro a b ha hb u h
    obtain ⟨f, h1, h2, h3, _⟩ := inst_com hb ha (ap := 99) (by omega) h
    have la := fun n hn => (badE_zero.1 (checkE_zero.1 ha).2.1 n hn).2
    have lb := fun n hn => (badE_zero.1 (checkE_zero.1 hb).2.1 n hn).2
    exact most_com ha hb (fa := fun n => f (n - ((99 : Nat) : Int))) (fb := f) (fun n hn h0 => h1 _ (by omega) (by have := la n hn; omega)) (fun n hn h0 => h1 n h0 (by have := lb n hn; omega)) h3.symm h2.symm
  obtain ⟨v, g, h1, h2, h3⟩ := step a b ha hb u h
  obtain ⟨u', g', k1, k2, k3⟩ := step b a hb ha v h1
  have := k1.uniq h
  subst this
  have e := both_ways h3 k3 h2 k2
  have hl := congrArg List.length e
  rw [wrF_length, wrF_length] at hl
  exact ⟨v, h1, hl.symm, e⟩
end Go.Proofs.YtlemcinjalepkabGreat
