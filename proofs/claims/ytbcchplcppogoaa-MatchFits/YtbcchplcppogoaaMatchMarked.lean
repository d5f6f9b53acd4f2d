/- The walk of marked of layer 5's statements: binds are their owner's. -/
import Derived.Test.YtbcchplcppogoaaMatchTable
import Derived.ArgAppend
namespace Go.Proofs.Ytbcchplcppogoaa
set_option maxRecDepth 100000
set_option linter.unusedVariables false
open Go.RowKit
attribute [local go_sem ↓] Go.wp_at_zero Go.wp_at_succ
/-- The blocks of some binds. -/
def BBlk (v : Value) (l : List (Int × Value)) (k : Nat) : Prop := v.ownBlock = some k ∨ ∃ p ∈ l, p.2.ownBlock = some k
/-- A row's first part is a row. -/
theorem row_cut {base g cap : Nat} {w : World} {xs ys : List Int} {m : Nat} (h : Row base w (.slice (some ⟨g, 0, none⟩) m cap) (xs ++ ys)) : Row base w (.slice (some ⟨g, 0, none⟩) xs.length cap) xs := by
  rcases h.2 with ⟨e, _⟩ | ⟨g', c', cur, e, hb, hg, h1, h2, h3, h4⟩
  · cases e
  · simp only [Value.slice.injEq, Option.some.injEq, Addr.mk.injEq, and_true] at e
    obtain ⟨rfl, hm, rfl⟩ := e
    rw [List.length_append] at h1
    refine ⟨by rw [iv_length]; omega, .inr ⟨g, cap, cur, rfl, hb, hg, by omega, h2, h3, ?_⟩⟩
    rw [iv_append, List.length_append] at h4
    have := congrArg (List.take xs.length) h4
    rw [List.take_take, Nat.min_eq_left (by omega)] at this
    rw [Nat.mul_one, this, List.take_left' (iv_length xs)]
theorem BOwn.apartB {base : Nat} {w w' : World} {v : Value} {l : List (Int × Value)} {cur : List Bd} {S : Nat → Prop} (h : BOwn base w v l cur) (hk : Kept S w w') (hs : ∀ k, BBlk v l k → ¬ S k) : BOwn base w' v l cur :=
  ⟨hk.row h.row (fun k e => hs k (.inl e)), h.len, fun i h1 h2 => ⟨(h.each i h1 h2).1, hk.row (h.each i h1 h2).2.1 (fun k e => hs k (.inr ⟨l[i], List.getElem_mem h1, e⟩)), (h.each i h1 h2).2.2⟩, h.apart⟩
/-- One term's row is another one now. -/
theorem BOwn.turn {base : Nat} {w w' : World} {v : Value} {l : List (Int × Value)} {cur : List Bd} {i r : Nat} (h : BOwn base w v l cur) (hi : i < l.length) (hr : l[i].2.ownBlock = some r) {xs : List Int} (hx : Row base w' l[i].2 xs) (hk : Kept (fun k => k = r) w w') (hc : i < cur.length) : BOwn base w' v l (cur.set i (cur[i].1, xs)) := by
  have hne := (h.each i hi hc).2.2 r hr
  refine ⟨hk.row h.row (fun k e f => hne (by rw [← f]; exact e)), by rw [List.length_set]; exact h.len, fun j h1 h2 => ?_, h.apart⟩
  rw [List.length_set] at h2
  obtain ⟨e1, e2, e3⟩ := h.each j h1 h2
  by_cases e : i = j
  · subst e
    rw [List.getElem_set_self]
    exact ⟨e1, hx, e3⟩
  · rw [List.getElem_set_ne e]
    exact ⟨e1, hk.row e2 (fun k q f => by subst f; exact h.apart j i h1 hi (fun q => e q.symm) _ q hr), e3⟩
theorem BOwn.form {base : Nat} {w : World} {v : Value} {l : List (Int × Value)} {cur : List Bd} (h : BOwn base w v l cur) {i : Nat} (hi : i < l.length) (hc : i < cur.length) (hne : cur[i].2 ≠ []) : ∃ r cap, l[i].2 = .slice (some ⟨r, 0, none⟩) cur[i].2.length cap := by
  obtain ⟨_, e2, _⟩ := h.each i hi hc
  rcases e2.2 with ⟨_, h0⟩ | ⟨g, cap, cu, hv, _⟩
  · exact absurd (List.eq_nil_of_length_eq_zero h0) hne
  · exact ⟨g, cap, hv⟩
theorem bcells_set {l : List (Int × Value)} {i : Nat} (hi : i < l.length) (y : Int) : (bcells l).set (i * 2) (.int .i64 y) = bcells (l.set i (y, l[i].2)) := by
  induction l generalizing i with
  | nil => simp at hi
  | cons x r ih =>
    have e : ∀ x : Int × Value, ∀ r, bcells (x :: r) = .int .i64 x.1 :: x.2 :: bcells r := fun x r => by simp [bcells]
    cases i with
    | zero => simp [e]
    | succ j =>
      have e1 : (j + 1) * 2 = j * 2 + 1 + 1 := by omega
      rw [e1, e]
      simp only [List.set_cons_succ, List.getElem_cons_succ, e]
      rw [ih (by simpa using hi)]
theorem BOwn.name {base : Nat} {w : World} {vb n c : Nat} {l : List (Int × Value)} {cur : List Bd} {i : Nat} (h : BOwn base w (.slice (some ⟨vb, 0, none⟩) n c) l cur) (hi : i < l.length) (hc : i < cur.length) (y : Int) : BOwn base (w.setCell ⟨vb, i * 2, none⟩ (.int .i64 y)) (.slice (some ⟨vb, 0, none⟩) n c) (l.set i (y, l[i].2)) (cur.set i (y, cur[i].2)) := by
  have hk : Kept (fun k => k = vb) w (w.setCell ⟨vb, i * 2, none⟩ (.int .i64 y)) := Kept.setCell (p := ⟨vb, i * 2, none⟩) (Kept.refl (fun k => k = vb) w) (fun _ => rfl) _
  have snd : ∀ j (hj : j < l.length) (hj' : j < (l.set i (y, l[i].2)).length), (l.set i (y, l[i].2))[j].2 = l[j].2 := fun j hj hj' => by
    by_cases e : i = j
    · subst e; rw [List.getElem_set_self]
    · rw [List.getElem_set_ne e]
  have hnl : n = l.length := by
    rcases h.row.2 with ⟨q, _⟩ | ⟨g', c', cu, q, _⟩
    · cases q
    · simp only [Value.slice.injEq] at q; exact q.2.1
  refine ⟨?_, by rw [List.length_set, List.length_set]; exact h.len, fun j h1 h2 => ?_, fun a b ha hb' hab k q => ?_⟩
  · have hrow := h.row
    rw [← hnl] at hrow
    have := (hrow.stored (i * 2) (.int .i64 y)).1
    rw [List.length_set, ← bcells_set hi, ← hnl]
    exact this
  · rw [List.length_set] at h1 h2
    obtain ⟨e1, e2, e3⟩ := h.each j h1 h2
    rw [snd j h1]
    by_cases e : i = j
    · subst e
      rw [List.getElem_set_self, List.getElem_set_self]
      exact ⟨rfl, hk.row e2 (fun k q f => by subst f; exact e3 _ q rfl), e3⟩
    · rw [List.getElem_set_ne e, List.getElem_set_ne e]
      exact ⟨e1, hk.row e2 (fun k q f => by subst f; exact e3 _ q rfl), e3⟩
  · rw [List.length_set] at ha hb'
    rw [snd a ha] at q
    rw [snd b hb']
    exact h.apart a b ha hb' hab k q
/-- append of one number to a row of the call's own: where there is room. -/
theorem wpList_push_room {w0 : World} {ops : Array Oper} {rest : List Oper} {o : Oper} {a : Act} {Q : Exit → Act → World → Prop} (hgd : o.guard = none) (s x : Operand) (t : TypeId)
    (ho : o.op = .call { callee := .builtin .append, args := #[s, x], argTypes := #[t, t] }) (ht : Try.prog.underlying t = some (.slice 3))
    (base : Nat) (xs : List Int) (g m cap : Nat) (hs : a.eval s = .slice (some ⟨g, 0, none⟩) m cap) (hm : m = xs.length) (hr : Row base w0 (.slice (some ⟨g, 0, none⟩) xs.length cap) xs) (y : Int) (hx : a.eval x = .slice (some ⟨w0.heap.size, 0, none⟩) 1 1) (hroom : xs.length + 1 ≤ cap)
    (h : ∀ w', Row base w' (.slice (some ⟨g, 0, none⟩) (xs.length + 1) cap) (xs ++ [y]) → Kept (fun k => k = g) w0 w' → wpList Try.prog ops Q rest (a.put o.dst (.slice (some ⟨g, 0, none⟩) (xs.length + 1) cap)) w') :
    wpList Try.prog ops Q (o :: rest) a (w0.alloc (.cells #[.int .i64 y] 3)) := by
  subst hm
  obtain ⟨i, hi, hz0, hz1, hz2⟩ := info_parts info_intT
  refine wpList_append_fits _ hgd s x t ho base 3 i 1 ht hi hz1 g xs.length cap (iv xs) hs (World.ownsRow.alloc hr _) ⟨w0.heap.size, 0, none⟩ 1 1 [.int .i64 y] hx rfl (cell_one_new _ _ _) (by simp [Value.oneCell']) hroom ?_
  intro w' hown hgrow
  refine h w' ?_ (Kept.grown (Kept.alloc (Kept.refl _ w0) _) hgrow (fun k e _ => by cases e; rfl))
  unfold Row; rw [iv_append, List.length_append]; exact hown
/-- .. and where there is none. -/
theorem wpList_push_full {w0 : World} {ops : Array Oper} {rest : List Oper} {o : Oper} {a : Act} {Q : Exit → Act → World → Prop} (hgd : o.guard = none) (s x : Operand) (t : TypeId)
    (ho : o.op = .call { callee := .builtin .append, args := #[s, x], argTypes := #[t, t] }) (ht : Try.prog.underlying t = some (.slice 3))
    (base : Nat) (xs : List Int) (g m cap : Nat) (hs : a.eval s = .slice (some ⟨g, 0, none⟩) m cap) (hm : m = xs.length) (hr : Row base w0 (.slice (some ⟨g, 0, none⟩) xs.length cap) xs) (y : Int) (hx : a.eval x = .slice (some ⟨w0.heap.size, 0, none⟩) 1 1) (hfull : cap < xs.length + 1) (hb : base ≤ w0.heap.size) (hsz : xs.length ≤ 100000)
    (h : ∀ v' w', Row w0.heap.size w' v' (xs ++ [y]) → Same0 w0 w' → wpList Try.prog ops Q rest (a.put o.dst v') w') :
    wpList Try.prog ops Q (o :: rest) a (w0.alloc (.cells #[.int .i64 y] 3)) := by
  subst hm
  obtain ⟨i, hi, hz0, hz1, hz2⟩ := info_parts info_intT
  have hr' := World.ownsRow.alloc hr (.cells #[.int .i64 y] 3)
  refine wpList_append_grows _ hgd s x t ho 3 i (.int .i64 0) 1 8 ht hi hz0 hz1 hz2 rfl (by decide) (some ⟨g, 0, none⟩) xs.length cap (iv xs) hs (fun e => by cases e) (by rw [iv_length]; omega) (fun b e j u hj => ?_) ⟨w0.heap.size, 0, none⟩ 1 1 [.int .i64 y] hx rfl (cell_one_new _ _ _) (by simp [Value.oneCell']) hfull (by unfold maxLen; omega) (by omega) ?_
  · cases e
    have hj' := (List.getElem?_eq_some_iff.1 hj).1
    rw [iv_length] at hj'
    have : (⟨g, 0, none⟩ : Addr).add j = ⟨g, j, none⟩ := by unfold Addr.add; split <;> simp_all
    rw [this, hr'.cellAt j (by omega)]
    exact hj
  · intro v' w' hown hgrow
    refine h v' w' ?_ (Same0.trans' (Kept.alloc (Kept.refl _ w0) _) (Same0.grown (Kept.refl _ _) hgrow))
    unfold Row; rw [iv_append, List.length_append]; exact row_mono hown (by simp)
/-- The blocks of a list of binds, told by its terms. -/
def FB (v : Value) (tvs : List Value) (k : Nat) : Prop := v.ownBlock = some k ∨ ∃ tv ∈ tvs, tv.ownBlock = some k
theorem fb_of {v : Value} {l : List (Int × Value)} {k : Nat} : BBlk v l k ↔ FB v (l.map Prod.snd) k := by
  unfold BBlk FB
  constructor
  · rintro (e | ⟨p, hp, e⟩)
    · exact .inl e
    · exact .inr ⟨p.2, List.mem_map.2 ⟨p, hp, rfl⟩, e⟩
  · rintro (e | ⟨tv, ht, e⟩)
    · exact .inl e
    · obtain ⟨p, hp, rfl⟩ := List.mem_map.1 ht
      exact .inr ⟨p, hp, e⟩
/-- At the head of a round of marked: those before i are marked. -/
structure MkAt (base : Nat) (w wr : World) (v : Value) (tvs : List Value) (bs : List Bd) (i : Nat) (l : List (Int × Value)) (cur : List Bd) : Prop where
  own : BOwn base wr v l cur
  tv : l.map Prod.snd = tvs
  len : cur.length = bs.length
  lens : ∀ j (h : j < cur.length) (h' : j < bs.length), cur[j].2.length = bs[j].2.length
  done : ∀ j (h : j < cur.length), j < i → ∀ y ∈ cur[j].2, y = 1000 + (j : Int)
  kept : Kept (FB v tvs) w wr
/-- The term i has its first k numbers marked. -/
def Half5 (cur : List Bd) (i k : Nat) : Prop := ∀ (h : i < cur.length) j (hj : j < cur[i].2.length), j < k → cur[i].2[j] = 1000 + (i : Int)
theorem MkAt.cells {base : Nat} {w wr : World} {vb n c : Nat} {tvs : List Value} {bs : List Bd} {i : Nat} {l : List (Int × Value)} {cur : List Bd} (h : MkAt base w wr (.slice (some ⟨vb, 0, none⟩) n c) tvs bs i l cur) {j : Nat} (hj : j < bs.length) (hne : bs[j].2 ≠ []) :
    ∃ r cap, wr.cell? ⟨vb, j * 2 + 1, none⟩ = some (.slice (some ⟨r, 0, none⟩) bs[j].2.length cap) ∧ Row base wr (.slice (some ⟨r, 0, none⟩) bs[j].2.length cap) (cur[j]'(by rw [h.len]; exact hj)).2 ∧ ∃ hl : j < l.length, l[j].2 = .slice (some ⟨r, 0, none⟩) bs[j].2.length cap := by
  have hc : j < cur.length := by rw [h.len]; exact hj
  have hl : j < l.length := by rw [h.own.len]; exact hc
  have he := h.lens j hc hj
  obtain ⟨r, cap, hf⟩ := h.own.form hl hc (fun e => by rw [e] at he; exact hne (List.eq_nil_of_length_eq_zero he.symm))
  rw [he] at hf
  have hr := (h.own.each j hl hc).2.1
  rw [hf] at hr
  have hnl : n = l.length := by
    rcases h.own.row.2 with ⟨q, _⟩ | ⟨g', c', cu, q, _⟩
    · cases q
    · simp only [Value.slice.injEq] at q; exact q.2.1
  have hrow := h.own.row
  rw [← hnl] at hrow
  refine ⟨r, cap, ?_, hr, hl, hf⟩
  rw [hrow.cellAt (j * 2 + 1) (by omega), (bcells_at hl).2, hf]
theorem MkAt.store {base : Nat} {w wr : World} {v : Value} {tvs : List Value} {bs : List Bd} {i k r cap m : Nat} {l : List (Int × Value)} {cur : List Bd} (h : MkAt base w wr v tvs bs i l cur) (hh : Half5 cur i k) (hl : i < l.length) (hf : l[i].2 = .slice (some ⟨r, 0, none⟩) m cap) (hk : k < m) :
    ∃ cur', MkAt base w (wr.setCell ⟨r, k, none⟩ (.int .i64 (1000 + (i : Int)))) v tvs bs i l cur' ∧ Half5 cur' i (k + 1) := by
  have hc : i < cur.length := by rw [← h.own.len]; exact hl
  have hk' : Kept (fun b => b = r) wr (wr.setCell ⟨r, k, none⟩ (.int .i64 (1000 + (i : Int)))) := Kept.setCell (p := ⟨r, k, none⟩) (Kept.refl (fun b => b = r) wr) (fun _ => rfl) _
  have hr := (h.own.each i hl hc).2.1
  have hm : m = cur[i].2.length := by
    rw [hf] at hr
    rcases hr.2 with ⟨q, _⟩ | ⟨g', c', cu, q, _⟩
    · cases q
    · simp only [Value.slice.injEq] at q; exact q.2.1
  have hr2 : Row base (wr.setCell ⟨r, k, none⟩ (.int .i64 (1000 + (i : Int)))) l[i].2 (cur[i].2.set k (1000 + (i : Int))) := by
    rw [hf] at hr ⊢
    subst hm
    have := (hr.stored k (.int .i64 (1000 + (i : Int)))).1
    unfold Row
    rw [List.length_set]
    have e : iv (cur[i].2.set k (1000 + (i : Int))) = (iv cur[i].2).set k (.int .i64 (1000 + (i : Int))) := by simp [iv, List.map_set]
    rw [e]; exact this
  have hob : l[i].2.ownBlock = some r := by rw [hf]; rfl
  refine ⟨_, ⟨h.own.turn hl hob hr2 hk' hc, h.tv, by rw [List.length_set]; exact h.len, fun j h1 h2 => ?_, fun j h1 hj => ?_, h.kept.trans hk' (fun b _ e => by subst e; exact .inr ⟨l[i].2, by rw [← h.tv]; exact List.mem_map.2 ⟨l[i], List.getElem_mem hl, rfl⟩, hob⟩)⟩, fun h1 j hj hjk => ?_⟩
  · rw [List.length_set] at h1
    by_cases e : i = j
    · subst e; rw [List.getElem_set_self]; simp only [List.length_set]; exact h.lens i h1 h2
    · rw [List.getElem_set_ne e]; exact h.lens j h1 h2
  · rw [List.length_set] at h1
    rw [List.getElem_set_ne (by omega)]
    exact h.done j h1 hj
  · have e0 : (cur.set i (cur[i].1, cur[i].2.set k (1000 + (i : Int))))[i] = (cur[i].1, cur[i].2.set k (1000 + (i : Int))) := List.getElem_set_self _
    have hj2 : j < cur[i].2.length := by rw [e0] at hj; simpa using hj
    have : (cur.set i (cur[i].1, cur[i].2.set k (1000 + (i : Int))))[i].2[j] = (cur[i].2.set k (1000 + (i : Int)))[j]'(by simpa using hj2) := by simp [e0]
    rw [this]
    by_cases e : k = j
    · subst e; rw [List.getElem_set_self]
    · rw [List.getElem_set_ne e]; exact hh hc j hj2 (by omega)
theorem MkAt.name {base : Nat} {w wr : World} {vb n c : Nat} {tvs : List Value} {bs : List Bd} {i : Nat} {l : List (Int × Value)} {cur : List Bd} (h : MkAt base w wr (.slice (some ⟨vb, 0, none⟩) n c) tvs bs i l cur) (hl : i < l.length) (hc : i < cur.length) (hh : Half5 cur i cur[i].2.length) (y : Int) :
    ∃ l' cur', MkAt base w (wr.setCell ⟨vb, i * 2, none⟩ (.int .i64 y)) (.slice (some ⟨vb, 0, none⟩) n c) tvs bs (i + 1) l' cur' := by
  refine ⟨_, _, h.own.name hl hc y, ?_, by rw [List.length_set]; exact h.len, fun j h1 h2 => ?_, fun j h1 hj => ?_, h.kept.setCell (p := ⟨vb, i * 2, none⟩) (fun _ => .inl rfl) _⟩
  · rw [← h.tv, List.map_set]
    have : (y, l[i].2).2 = (l.map Prod.snd)[i]'(by simpa using hl) := by simp
    rw [this, List.set_getElem_self]
  · rw [List.length_set] at h1
    by_cases e : i = j
    · subst e; rw [List.getElem_set_self]; exact h.lens i h1 h2
    · rw [List.getElem_set_ne e]; exact h.lens j h1 h2
  · rw [List.length_set] at h1
    by_cases e : i = j
    · subst e
      rw [List.getElem_set_self]
      intro z hz
      obtain ⟨q, hq, rfl⟩ := List.getElem_of_mem hz
      exact hh hc q hq hq
    · rw [List.getElem_set_ne e]; exact h.done j h1 (by omega)
end Go.Proofs.Ytbcchplcppogoaa
