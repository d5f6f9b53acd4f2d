import Derived.Test.YtlemcinjalepkaaGreatGRule07
/- Rows of binds in memory; the walk of binds of package match. -/
namespace Go.Proofs.YtlemcinjalepkaaGreat
set_option maxRecDepth 100000
set_option linter.unusedVariables false
open Go.RowKit
attribute [local go_sem ↓] Go.wp_at_zero Go.wp_at_succ
theorem info_bind : (Tryz.prog.info? 163).map (fun i => (i.zero, i.size, i.bytes)) = some (some (.agg #[.int .i64 0, .slice none 0 0]), 2, 32) := by kernel_rfl
def bcells (l : List (Int × Value)) : List Value := l.flatMap (fun p => [.int .i64 p.1, p.2])
theorem bcells_snoc (l : List (Int × Value)) (p : Int × Value) : bcells (l ++ [p]) = bcells l ++ [.int .i64 p.1, p.2] := by simp [bcells]
theorem bcells_length (l : List (Int × Value)) : (bcells l).length = l.length * 2 := by
  induction l with
  | nil => rfl
  | cons x r ih => simp [bcells] at ih ⊢; omega
theorem bcells_at {l : List (Int × Value)} {i : Nat} (h : i < l.length) : (bcells l)[i * 2]? = some (.int .i64 l[i].1) ∧ (bcells l)[i * 2 + 1]? = some l[i].2 := by
  induction l generalizing i with
  | nil => simp at h
  | cons x r ih =>
    have e : bcells (x :: r) = .int .i64 x.1 :: x.2 :: bcells r := by simp [bcells]
    rw [e]
    cases i with
    | zero => simp
    | succ j =>
      obtain ⟨a, b⟩ := ih (i := j) (by simpa using h)
      have e1 : (j + 1) * 2 = j * 2 + 1 + 1 := by omega
      rw [e1]
      exact ⟨by simpa using a, by simpa using b⟩
/-- append of one bind to a row of the call's own. -/
theorem wpList_bind {w0 : World} {ops : Array Oper} {rest : List Oper} {o : Oper} {a : Act} {Q : Exit → Act → World → Prop} (hgd : o.guard = none) (s x : Operand)
    (ho : o.op = .call { callee := .builtin .append, args := #[s, x], argTypes := #[76, 76] })
    (base : Nat) (l : List (Int × Value)) (v : Value) (hs : a.eval s = v) (hr : w0.ownsRow base 163 2 v l.length (bcells l)) (n : Int) (tO : Option Addr) (tl tc : Nat) (hx : a.eval x = .slice (some ⟨w0.heap.size, 0, none⟩) 1 1) (hb : base ≤ w0.heap.size) (hsz : l.length ≤ 140737488000)
    (h : ∀ g cap w', w'.ownsRow base 163 2 (.slice (some ⟨g, 0, none⟩) (l.length + 1) cap) (l.length + 1) (bcells l ++ [.int .i64 n, .slice tO tl tc]) → Kept (fun k => v.ownBlock = some k) w0 w' → (v.ownBlock = some g ∨ w0.heap.size ≤ g) → wpList Tryz.prog ops Q rest (a.put o.dst (.slice (some ⟨g, 0, none⟩) (l.length + 1) cap)) w') :
    wpList Tryz.prog ops Q (o :: rest) a (w0.alloc (.cells #[.int .i64 n, .slice tO tl tc] 163)) := by
  obtain ⟨i, hi, hz0, hz1, hz2⟩ := info_parts info_bind
  refine wpList_append_lies _ hgd s x 76 ho base 163 i _ 2 32 Tryz.underlying76 hi hz0 hz1 hz2 rfl (by decide) v l.length (bcells l) hs (World.ownsRow.alloc hr _) ⟨w0.heap.size, 0, none⟩ 1 1 [.int .i64 n, .slice tO tl tc] hx rfl (World.news_of_block (cs := #[.int .i64 n, .slice tO tl tc]) (t := 163) (fr := (0, 0)) (heap_alloc_new w0 _)) (by simp [Value.oneCell']) (by omega) (by unfold maxLen; omega) (by omega) (by simp; omega) (w0.heap.size + 1) (by simp) ?_
  intro g cap w' hown hgrow hat hlt
  refine h g cap w' hown ?_ (hat.imp id (fun e => by omega))
  exact Kept.grown (Kept.alloc (Kept.refl _ w0) _) hgrow (fun _ e _ => e)
/-- Binds of the call's own, each term in a block of its own. -/
structure BOwn (base : Nat) (w : World) (v : Value) (l : List (Int × Value)) (bs : List Bd) : Prop where
  row : w.ownsRow base 163 2 v l.length (bcells l)
  len : l.length = bs.length
  each : ∀ i (h : i < l.length) (h' : i < bs.length), l[i].1 = bs[i].1 ∧ Row base w l[i].2 bs[i].2 ∧ ∀ k, l[i].2.ownBlock = some k → v.ownBlock ≠ some k
  apart : ∀ i j (hi : i < l.length) (hj : j < l.length), i ≠ j → ∀ k, l[i].2.ownBlock = some k → l[j].2.ownBlock ≠ some k
theorem BOwn.nil (base : Nat) (w : World) : BOwn base w (.slice none 0 0) [] [] := ⟨World.ownsRow_nil _ _ _ _, rfl, fun i h => by simp at h, fun i j h => by simp at h⟩
theorem BOwn.kept {base : Nat} {w w' : World} {v : Value} {l : List (Int × Value)} {bs : List Bd} {S : Nat → Prop} (h : BOwn base w v l bs) (hk : Kept S w w') (hs : ∀ k, base ≤ k → k < w.heap.size → ¬ S k) : BOwn base w' v l bs :=
  ⟨hk.row h.row (fun k e => hs k (h.row.lt k e).1 (h.row.lt k e).2), h.len, fun i h1 h2 => ⟨(h.each i h1 h2).1, hk.row (h.each i h1 h2).2.1 (fun k e => hs k ((h.each i h1 h2).2.1.lt k e).1 ((h.each i h1 h2).2.1.lt k e).2), (h.each i h1 h2).2.2⟩, h.apart⟩
theorem BOwn.same {base : Nat} {w w' : World} {v : Value} {l : List (Int × Value)} {bs : List Bd} (h : BOwn base w v l bs) (hk : Same0 w w') : BOwn base w' v l bs := h.kept hk (fun _ _ _ f => f)
theorem BOwn.more {base : Nat} {wr w1 w2 : World} {lv tv : Value} {l : List (Int × Value)} {bs : List Bd} {n : Int} {xs : List Int} {g cap : Nat} (h : BOwn base wr lv l bs) (k1 : Same0 wr w1) (hb : base ≤ wr.heap.size) (ht : Row wr.heap.size w1 tv xs)
    (hr : w2.ownsRow base 163 2 (.slice (some ⟨g, 0, none⟩) (l.length + 1) cap) (l.length + 1) (bcells l ++ [.int .i64 n, tv])) (k2 : Kept (fun k => lv.ownBlock = some k) w1 w2) (hat : lv.ownBlock = some g ∨ w1.heap.size ≤ g) :
    BOwn base w2 (.slice (some ⟨g, 0, none⟩) (l.length + 1) cap) (l ++ [(n, tv)]) (bs ++ [(n, xs)]) := by
  have z1 := k1.size
  have hl := h.len
  have own : ∀ k, lv.ownBlock = some k → k < wr.heap.size := fun k e => (h.row.lt k e).2
  have tl : ∀ k, tv.ownBlock = some k → wr.heap.size ≤ k ∧ k < w1.heap.size := fun k e => ht.lt k e
  have ol : ∀ i (hi : i < l.length) k, l[i].2.ownBlock = some k → k < wr.heap.size := fun i hi k e => ((h.each i hi (by omega)).2.1.lt k e).2
  refine ⟨?_, by simp [hl], fun i h1 h2 => ?_, fun i j hi hj hij k e => ?_⟩
  · rw [bcells_snoc, List.length_append]; exact hr
  · by_cases hi : i < l.length
    · have hi' : i < bs.length := by omega
      obtain ⟨e1, e2, e3⟩ := h.each i hi hi'
      rw [List.getElem_append_left hi, List.getElem_append_left hi']
      refine ⟨e1, k2.row (k1.row e2 (fun _ _ f => f)) (fun k e => e3 k e), fun k e => ?_⟩
      simp only [Value.ownBlock, ne_eq, Option.some.injEq]
      rintro rfl
      rcases hat with y | y
      · exact e3 _ e y
      · have := ol i hi _ e; omega
    · have hi2 : i = l.length := by simp at h1; omega
      subst hi2
      have e1 : (l ++ [(n, tv)])[l.length] = (n, tv) := by simp
      have e2 : (bs ++ [(n, xs)])[l.length] = (n, xs) := by simp [hl]
      rw [e1, e2]
      refine ⟨rfl, row_mono (k2.row ht (fun k e f => by have := own k f; have := (tl k e).1; omega)) hb, fun k e => ?_⟩
      simp only [Value.ownBlock, ne_eq, Option.some.injEq]
      rintro rfl
      have := tl _ e
      rcases hat with y | y
      · have := own _ y; omega
      · omega
  · by_cases hi1 : i < l.length
    · rw [List.getElem_append_left hi1] at e
      by_cases hj1 : j < l.length
      · rw [List.getElem_append_left hj1]
        exact h.apart i j hi1 hj1 hij k e
      · have : j = l.length := by simp at hj; omega
        subst this
        have e1 : (l ++ [(n, tv)])[l.length] = (n, tv) := by simp
        rw [e1]
        intro y
        have := (tl k y).1; have := ol i hi1 k e; omega
    · have hi2 : i = l.length := by simp at hi; omega
      subst hi2
      have e1 : (l ++ [(n, tv)])[l.length] = (n, tv) := by simp
      rw [e1] at e
      have hj1 : j < l.length := by simp at hj; omega
      rw [List.getElem_append_left hj1]
      intro y
      have := (tl k e).1; have := ol j hj1 k y; omega
set_option maxHeartbeats 4000000 in
theorem binds_any {N : Nat} {w : World} {A : Nat} {σ : Tb} (h : TabAt N w A σ) (hb : Bnd σ) :
    Calls Tryz.prog 63 #[.pointer (some ⟨A, 0, none⟩)] w fun e w' => ∃ v l, e = .returned v ∧ BOwn w.heap.size w' v l (blN σ 100) ∧ Same0 w w' := by
  have hnil := neqnil
  go_enter Tryz.func63, Tryz.ntmps63
  go_wp2
  go_loopw [3, 8] (fun lv iv wr => ∃ (i : Nat) (l : List (Int × Value)), i ≤ 100 ∧ iv = .int .i64 (i : Int) ∧ BOwn w.heap.size wr lv l (blN σ i) ∧ Same0 w wr) (fun _ iv _ => 100 - (intOf iv).toNat)
  case atStart => exact ⟨0, [], by omega, rfl, BOwn.nil _ _, Kept.refl _ _⟩
  case round =>
    obtain ⟨i, l, hi, rfl, hB, hs⟩ := hrel
    obtain ⟨lo, lc, rfl⟩ := row_shape hB.row
    by_cases hlt : i < 100
    · obtain ⟨ao, cap, c1, c2, c3, c4, c5⟩ := (h.same hs).cell hlt
      have i1 : (0 : Int) ≤ (i : Int) := by omega
      have i2 : (i : Int) < 100 := by omega
      have d1 : wr.drew.cell? ⟨A, i, none⟩ = some (.slice ao (σ i).length cap) := c1
      by_cases hσ : σ i = []
      · obtain ⟨rfl, rfl⟩ := c5 hσ
        have HB : Hid (blN σ (i + 1) = blN σ i) := blN_no hσ
        clear c5 hσ
        go_wp2
        go_quiet (fail)
        go_wp2
        refine ⟨⟨i + 1, l, by omega, by go_num, ?_, hs.drewN _⟩, by simp [intOf]; omega⟩
        rw [HB.out]; exact hB.same ((Kept.refl _ wr).drewN _)
      · have hpos : 0 < (σ i).length := List.length_pos_iff.2 hσ
        have HB : Hid (blN σ (i + 1) = blN σ i ++ [((i : Int), σ i)]) := blN_yes hσ
        have hlen : l.length ≤ 100 := by have := hB.len; have := blN_len σ i; omega
        obtain ⟨ab, off, rfl, _, _⟩ := c3.get hpos
        have cc : Hid (∀ m, Calls Tryz.prog 89 #[.slice (some ⟨ab, off, none⟩) (σ i).length cap] (wr.drewN m) fun e w' => ∃ tO tc, e = .returned (.slice tO (σ i).length tc) ∧ Row wr.heap.size w' (.slice tO (σ i).length tc) (σ i) ∧ Same0 wr w') := fun m => by
          have kd : Same0 wr (wr.drewN m) := (Kept.refl _ wr).drewN m
          refine (clone_term (cap := cap) (c3.same kd) hpos (hb i)).mono ?_
          rintro e w' ⟨v, rfl, hr, hk⟩
          obtain ⟨tO, tc, rfl⟩ := row_shape hr
          exact ⟨tO, tc, rfl, hr, kd.trans' hk⟩
        have hbs := hs.size
        clear c5 hσ
        go_wp2
        go_quiet (fail)
        go_wp2_with (first | (go_at_call 89; refine (cc.out _).mono ?_; rintro e w1 ⟨tO, tc, rfl, hr1, hk1⟩; have hrow1 := hk1.row hB.row (fun _ _ f => f); have hb1 : w.heap.size ≤ w1.heap.size := Nat.le_trans hbs hk1.size) | (at_builtin; refine wpList_bind rfl _ _ rfl w.heap.size l _ rfl hrow1 (i : Int) tO (σ i).length tc rfl hb1 (by omega) ?_; intro g gcap w2 hr2 hk2 hat2))
        have hB2 := hB.more hk1 hbs hr1 hr2 hk2 hat2
        have hs2 : Same0 w w2 := (hs.trans' hk1).trans hk2 (fun k hk e => by have := (hB.row.lt k e).1; omega)
        rw [← HB.out] at hB2
        go_roundw
        case rel => first | exact ⟨i + 1, l ++ [((i : Int), .slice tO (σ i).length tc)], by omega, by go_num, hB2, hs2⟩ | ((repeat apply Exists.intro); exact ⟨⟨i + 1, l ++ [((i : Int), .slice tO (σ i).length tc)], by omega, by go_num, hB2, hs2⟩, rfl⟩)
        case measure => simp [intOf]; omega
    · obtain rfl : i = 100 := by omega
      go_wp2
      go_ret
      exact ⟨_, l, rfl, hB, hs⟩
end Go.Proofs.YtlemcinjalepkaaGreat
/- Binds that lie in memory; the walk of tableOf of package match. -/
namespace Go.Proofs.YtlemcinjalepkaaGreat
set_option maxRecDepth 100000
set_option linter.unusedVariables false
open Go.RowKit
attribute [local go_sem ↓] Go.wp_at_zero Go.wp_at_succ
/-- Binds that lie in memory. -/
def BindsAt (w : World) (lo : Option Addr) (bs : List Bd) : Prop :=
  bs = [] ∨ ∃ b off, lo = some ⟨b, off, none⟩ ∧ b < w.heap.size ∧ ∀ i (h : i < bs.length), w.cell? ⟨b, off + i * 2, none⟩ = some (.int .i64 bs[i].1) ∧ ∃ ao cap, w.cell? ⟨b, off + i * 2 + 1, none⟩ = some (.slice ao bs[i].2.length cap) ∧ IntsAt w ao bs[i].2 ∧ bs[i].2.length ≤ cap ∧ (ao = none → bs[i].2.length = 0 ∧ cap = 0)
theorem BindsAt.same {w w' : World} {lo : Option Addr} {bs : List Bd} (h : BindsAt w lo bs) (hk : Same0 w w') : BindsAt w' lo bs := by
  refine h.imp id ?_
  rintro ⟨b, off, rfl, hlt, hc⟩
  refine ⟨b, off, rfl, Nat.lt_of_lt_of_le hlt hk.size, fun i hi => ?_⟩
  obtain ⟨c1, ao, cap, c2, c3, c4, c5⟩ := hc i hi
  exact ⟨(hk.cell (p := ⟨b, off + i * 2, none⟩) hlt (fun f => f)).trans c1, ao, cap, (hk.cell (p := ⟨b, off + i * 2 + 1, none⟩) hlt (fun f => f)).trans c2, c3.same hk, c4, c5⟩
theorem BindsAt.get {w : World} {lo : Option Addr} {bs : List Bd} (h : BindsAt w lo bs) {i : Nat} (hi : i < bs.length) : ∃ b off ao cap, lo = some ⟨b, off, none⟩ ∧ b < w.heap.size ∧ w.cell? ⟨b, off + i * 2, none⟩ = some (.int .i64 bs[i].1) ∧ w.cell? ⟨b, off + i * 2 + 1, none⟩ = some (.slice ao bs[i].2.length cap) ∧ IntsAt w ao bs[i].2 ∧ bs[i].2.length ≤ cap ∧ (ao = none → bs[i].2.length = 0 ∧ cap = 0) := by
  rcases h with rfl | ⟨b, off, e, hlt, hc⟩
  · simp at hi
  · obtain ⟨c1, ao, cap, c2, c3, c4, c5⟩ := hc i hi
    exact ⟨b, off, ao, cap, e, hlt, c1, c2, c3, c4, c5⟩
theorem BOwn.at' {base : Nat} {w : World} {v : Value} {l : List (Int × Value)} {bs : List Bd} (h : BOwn base w v l bs) : ∃ lo cap, v = .slice lo bs.length cap ∧ BindsAt w lo bs ∧ bs.length ≤ cap := by
  have hl := h.len
  rcases h.row.2 with ⟨rfl, h0⟩ | ⟨g, cap, cur, rfl, hb, hg, h1, h2, h3, h4⟩
  · have : bs = [] := List.eq_nil_of_length_eq_zero (by omega)
    subst this
    exact ⟨none, 0, rfl, .inl rfl, Nat.le_refl _⟩
  · refine ⟨some ⟨g, 0, none⟩, cap, by rw [hl], .inr ⟨g, 0, rfl, lt_of_at hg, fun i hi => ?_⟩, by omega⟩
    have hi' : i < l.length := by omega
    obtain ⟨e1, e2, e3⟩ := h.each i hi' hi
    obtain ⟨x1, x2⟩ := bcells_at hi'
    obtain ⟨ao, c, y1, y2, y3, y4⟩ := e2.ints
    rw [Nat.zero_add]
    refine ⟨(h.row.cellAt (i * 2) (by omega)).trans (by rw [x1, e1]), ao, c, (h.row.cellAt (i * 2 + 1) (by omega)).trans (by rw [x2, y1]), y2, y3, fun e => ?_⟩
    subst e
    rcases e2.2 with ⟨z1, z2⟩ | ⟨g', c', cur', z1, _⟩
    · rw [y1] at z1; simp only [Value.slice.injEq, true_and] at z1; exact z1
    · rw [y1] at z1; simp at z1
/-- The table of some binds, or what is wrong with the first that may not be. -/
def tabF (L : List Sym) : List Bd → Tb → Except Int Tb
  | [], σ => .ok σ
  | b :: r, σ => if b.1 < 1 ∨ 99 < b.1 ∨ σ b.1.toNat ≠ [] then .error 50 else if checkE L b.2 ≠ 0 then .error (checkE L b.2) else tabF L r (updT σ b.1.toNat b.2)
theorem tab_bad {L : List Sym} {b : Bd} {r : List Bd} {σ : Tb} (h : b.1 < 1 ∨ 99 < b.1 ∨ σ b.1.toNat ≠ []) : tabF L (b :: r) σ = .error 50 := by rw [tabF, if_pos h]
theorem tab_check {L : List Sym} {b : Bd} {r : List Bd} {σ : Tb} (h : ¬ (b.1 < 1 ∨ 99 < b.1 ∨ σ b.1.toNat ≠ [])) (h2 : checkE L b.2 ≠ 0) : tabF L (b :: r) σ = .error (checkE L b.2) := by rw [tabF, if_neg h, if_pos h2]
theorem tab_go {L : List Sym} {b : Bd} {r : List Bd} {σ : Tb} (h : ¬ (b.1 < 1 ∨ 99 < b.1 ∨ σ b.1.toNat ≠ [])) (h2 : checkE L b.2 = 0) : tabF L (b :: r) σ = tabF L r (updT σ b.1.toNat b.2) := by rw [tabF, if_neg h, if_neg (by rw [h2]; simp)]
/-- Each takes one cell. -/
def OneAll (cs : Array Value) : Prop := cs.all (·.oneCell') = true
structure TabW (Z : Array Value) (w wr : World) (L : List Sym) (bs : List Bd) (i : Nat) (σ : Tb) : Prop where
  tab : TabAt w.heap.size wr (w.heap.size + 1) σ
  res : wr.heap[w.heap.size]? = some (.cells Z 133 (0, 0))
  eq : tabF L bs noT = tabF L (bs.drop i) σ
  bnd : Bnd σ
  kept : Same0 w wr
theorem tabw_start {Z : Array Value} (hZ : Z = Array.replicate 100 (.slice none 0 0)) (w : World) (L : List Sym) (bs : List Bd) : TabW Z w ((w.alloc (.cells Z 133)).alloc (.cells Z 133)) L bs 0 noT := by
  have k1 : Same0 w (w.alloc (.cells Z 133)) := (Kept.refl _ w).alloc _
  have k2 : Same0 (w.alloc (.cells Z 133)) ((w.alloc (.cells Z 133)).alloc (.cells Z 133)) := (Kept.refl _ _).alloc _
  refine ⟨⟨Z, ?_, hZ ▸ tab_zero _ _⟩, k2.at0 (heap_alloc_new w _), rfl, fun v => by simp [noT], k1.trans' k2⟩
  have := heap_alloc_new (w.alloc (.cells Z 133)) (.cells Z 133)
  rwa [World.size_alloc] at this
end Go.Proofs.YtlemcinjalepkaaGreat
/- The walk of Apply of package match. -/
namespace Go.Proofs.YtlemcinjalepkaaGreat
set_option maxRecDepth 100000
set_option linter.unusedVariables false
open Go.RowKit
attribute [local go_sem ↓] Go.wp_at_zero Go.wp_at_succ
def applyE (L : List Sym) (t : List Int) (bs : List Bd) : Int := if checkE L t ≠ 0 then checkE L t else match tabF L bs noT with | .error x => x | .ok σ => if 2000 < (appT σ t).length then 20 else 0
def applyA (L : List Sym) (t : List Int) (bs : List Bd) : List Int := if applyE L t bs = 0 then (match tabF L bs noT with | .ok σ => appT σ t | .error _ => []) else []
theorem tab_err_ne {L : List Sym} {bs : List Bd} {σ : Tb} {x : Int} (h : tabF L bs σ = .error x) : x ≠ 0 := by
  induction bs generalizing σ with
  | nil => simp [tabF] at h
  | cons b r ih =>
    rw [tabF] at h
    split at h
    · cases h; decide
    · split at h
      · cases h; assumption
      · exact ih h
theorem apply_check {L : List Sym} {t : List Int} {bs : List Bd} (h : checkE L t ≠ 0) : applyE L t bs = checkE L t ∧ applyA L t bs = [] := by
  have e : applyE L t bs = checkE L t := by rw [applyE, if_pos h]
  exact ⟨e, by rw [applyA, e, if_neg h]⟩
theorem apply_err {L : List Sym} {t : List Int} {bs : List Bd} {x : Int} (h : checkE L t = 0) (h2 : tabF L bs noT = .error x) : applyE L t bs = x ∧ applyA L t bs = [] := by
  have e : applyE L t bs = x := by rw [applyE, if_neg (by rw [h]; simp), h2]
  exact ⟨e, by rw [applyA, e, if_neg (tab_err_ne h2)]⟩
theorem apply_long {L : List Sym} {t : List Int} {bs : List Bd} {σ : Tb} (h : checkE L t = 0) (h2 : tabF L bs noT = .ok σ) (h3 : 2000 < (appT σ t).length) : applyE L t bs = 20 ∧ applyA L t bs = [] := by
  have e : applyE L t bs = 20 := by rw [applyE, if_neg (by rw [h]; simp), h2]; simp [h3]
  exact ⟨e, by rw [applyA, e, if_neg (by decide)]⟩
theorem apply_ok {L : List Sym} {t : List Int} {bs : List Bd} {σ : Tb} (h : checkE L t = 0) (h2 : tabF L bs noT = .ok σ) (h3 : ¬ 2000 < (appT σ t).length) : applyE L t bs = 0 ∧ applyA L t bs = appT σ t := by
  have e : applyE L t bs = 0 := by rw [applyE, if_neg (by rw [h]; simp), h2]; simp [h3]
  exact ⟨e, by rw [applyA, e, if_pos rfl, h2]⟩
theorem app_prefix (σ : Tb) (t : List Int) (k : Nat) : (appT σ (t.take k)).length ≤ (appT σ t).length := by
  have : appT σ t = appT σ (t.take k) ++ appT σ (t.drop k) := by rw [← app_append, List.take_append_drop]
  rw [this, List.length_append]; omega
theorem inst_none {σ : Tb} {n : Int} (h : partL σ n = []) : inst σ n = [n] := by
  unfold partL at h
  unfold inst
  by_cases h0 : 0 ≤ n
  · simp [h0]
  · rw [if_neg h0] at h; simp [h]
theorem inst_some {σ : Tb} {n : Int} (h : partL σ n ≠ []) : inst σ n = partL σ n := by
  unfold partL at h ⊢
  unfold inst
  by_cases h0 : 0 ≤ n
  · rw [if_pos h0] at h; exact absurd rfl h
  · rw [if_neg h0] at h ⊢; simp [h0, h]
end Go.Proofs.YtlemcinjalepkaaGreat
/- The walk of Match of package match. -/
namespace Go.Proofs.YtlemcinjalepkaaGreat
set_option maxRecDepth 100000
set_option linter.unusedVariables false
open Go.RowKit
attribute [local go_sem ↓] Go.wp_at_zero Go.wp_at_succ
def matchE (L : List Sym) (p t : List Int) (a : Int) : Int := if checkE L p ≠ 0 then checkE L p else placeE L t a
def matchS (L : List Sym) (p t : List Int) (a : Int) : Option Tb := if matchE L p t a = 0 then mw L p (subN L t a.toNat) noT else none
def matchB (L : List Sym) (p t : List Int) (a : Int) : List Bd := match matchS L p t a with | some σ => blN σ 100 | none => []
theorem match_bad {L : List Sym} {p t : List Int} {a : Int} (h : matchE L p t a ≠ 0) : matchS L p t a = none ∧ matchB L p t a = [] := by
  have h1 : matchS L p t a = none := by rw [matchS, if_neg h]
  exact ⟨h1, by rw [matchB, h1]⟩
set_option maxHeartbeats 4000000 in
theorem match_any {n b : Nat} {w : World} {L : List Sym} (h : Sg n w b L) (hn : n ≤ w.heap.size) {po ao : Option Addr} {pcap cap : Nat} {p t : List Int} (hp : IntsAt w po p) (hpm : p.length ≤ maxLen) (ht : IntsAt w ao t) (hm : t.length ≤ maxLen) (hcap : t.length ≤ cap) (a : Int) :
    Calls Tryz.prog 30 #[.pointer (some ⟨b, 0, none⟩), .slice po p.length pcap, .slice ao t.length cap, .int .i64 a] w fun e w' => ∃ v l, e = .returned (.tuple #[v, .bool (matchS L p t a).isSome, .int .i64 (matchE L p t a)]) ∧ BOwn w.heap.size w' v l (matchB L p t a) ∧ Same0 w w' := by
  have cp := check_any (cap := pcap) h hp hpm
  by_cases hz : checkE L p = 0
  · have cs1 : Hid (∀ w1, Same0 w w1 → Calls Tryz.prog 52 #[.pointer (some ⟨b, 0, none⟩), .slice ao t.length cap, .int .i64 a] w1 fun e w' => ∃ v, e = .returned (.tuple #[v, .int .i64 (placeE L t a)]) ∧ Row w1.heap.size w' v (subA L t a) ∧ Same0 w1 w') := fun w1 hk => sub_any (cap := cap) (h.same hk) (ht.same hk) hm hcap a
    have HE : matchE L p t a = placeE L t a := by simp [matchE, hz]
    rw [hz] at cp
    by_cases hq : placeE L t a = 0
    · obtain ⟨q, rfl, hql, h0, h1, h2⟩ := place_zero hq
      obtain ⟨p1, p2, p3⟩ := checkE_zero.1 hz
      have pv : ∀ x ∈ p, -99 ≤ x := fun x hx => ((badE_zero.1 p2) x hx).2
      have HS : matchS L p t q = mw L p (subN L t q) noT := by rw [matchS, HE, if_pos hq]; rfl
      have HA : subA L t q = subN L t q := by rw [subA, if_pos hq]; rfl
      have hsl := sub_length h2 hql
      have hle := endN_le h2 hql
      have hst := sub_need h2 hql
      have c2 : Hid (∀ w1, Same0 w w1 → Calls Tryz.prog 52 #[.pointer (some ⟨b, 0, none⟩), .slice ao t.length cap, .int .i64 (q : Int)] w1 fun e w' => ∃ uo uc, e = .returned (.tuple #[.slice uo (subN L t q).length uc, .int .i64 0]) ∧ Same0 w w' ∧ Calls Tryz.prog 62 #[.pointer (some ⟨b, 0, none⟩), .slice po p.length pcap, .slice uo (subN L t q).length uc] w' fun e w'' => ∃ cs f, e = .returned (.tuple #[.agg cs, .bool f]) ∧ cs.size = 100 ∧ Same0 w w'' ∧ f = (matchS L p t q).isSome ∧ cs.all (·.oneCell') = true ∧ ∀ σ, matchS L p t q = some σ → TabV w''.heap.size w'' cs σ ∧ Bnd σ) := fun w1 hk => by
        refine (cs1.out w1 hk).mono ?_
        rintro e w2 ⟨v, rfl, hr, hk2⟩
        rw [HA] at hr
        obtain ⟨uo, uc, rfl, u1, u2, u3⟩ := hr.ints
        have K2 := hk.trans' hk2
        have hn2 : n ≤ w2.heap.size := Nat.le_trans hn K2.size
        refine ⟨uo, uc, by rw [hq], K2, ?_⟩
        have sg2 : Sg w2.heap.size w2 b L := by
          obtain ⟨⟨sv, mr, x1, x2⟩, x3⟩ := h.same K2
          exact ⟨⟨sv, mr, x1, fun k e => by have := x2 k e; omega⟩, x3⟩
        refine (walk_any (pcap := pcap) sg2 (hp.same K2) u1 p1 (by omega) u2 pv (even_term p3 hst) (isT_pos hst)).mono ?_
        rintro e w3 ⟨cs, f, rfl, hk3, y1, y2⟩
        have z3 := hk3.size
        have K3 := K2.trans' hk3
        rw [HS]
        cases hm : mw L p (subN L t q) noT with
        | none =>
          obtain ⟨rfl, ty⟩ := y2 hm
          exact ⟨cs, false, rfl, ty.1, K3, rfl, ty.one, fun σ e => by cases e⟩
        | some σ =>
          obtain ⟨rfl, ty, tb⟩ := y1 σ hm
          refine ⟨cs, true, rfl, ty.1, K3, rfl, ty.one, fun σ' e => ?_⟩
          cases e
          refine ⟨⟨ty.1, fun v hv => ?_⟩, tb⟩
          obtain ⟨xo, xc, g1, g2, g3, g4, g5⟩ := ty.2 v hv
          exact ⟨xo, xc, g1, g2, g3, g4, fun a e => by have := g5 a e; omega⟩
      have HE' : Hid (matchE L p t q = 0) := by show _ = _; rw [HE]; exact hq
      obtain ⟨Z, hZ⟩ : ∃ Z : Array Value, Z = Array.replicate 100 (.slice none 0 0) := ⟨_, rfl⟩
      have hzz : Tryz.zeroCells133 = Z := zeros_table.trans hZ.symm
      have hZs : Z.size = 100 := by rw [hZ]; simp
      have HST : Hid (∀ (w' : World) (cs : Array Value), cs.size = 100 → cs.all (·.oneCell') = true → (storeCells ⟨w'.heap.size, 0, none⟩ cs.toList 0).run Tryz.prog (w'.alloc (.cells Z 133)) = .ok () (w'.alloc (.cells cs 133))) := fun w' cs h1 h2 => run_storeCells_new w' _ Z cs (by rw [h1]; exact info_table) (by omega) h2
      clear hZ cs1 hq HE HS HA hsl hle hst h2 h1 h0 hz p1 p2 p3 pv
      cases hS : matchS L p t q with
      | none =>
        have HB : Hid (matchB L p t q = []) := by show _ = _; rw [matchB, hS]
        rw [hS] at c2
        go_enter Tryz.func30, Tryz.ntmps30
        go_wp2_with (first | (go_at_call 49; refine cp.mono ?_; rintro e w1 ⟨rfl, hk1⟩) | (go_at_call 52; refine (c2.out _ hk1).mono ?_; rintro e w2 ⟨uo, uc, rfl, hk2, cw⟩) | (go_at_call 62; refine cw.mono ?_; rintro e w3 ⟨cs, f, rfl, hcs, hk3, rfl, hone, _⟩; have hst := HST.out w3 cs hcs hone))
        go_ret3
        refine ⟨.slice none 0 0, [], by rw [HE'.out]; rfl, ?_, hk3.alloc _⟩
        rw [HB.out]; exact BOwn.nil _ _
      | some σ =>
        have HB : Hid (matchB L p t q = blN σ 100) := by show _ = _; rw [matchB, hS]
        rw [hS] at c2
        have cB : Hid (∀ (w3 : World) (cs : Array Value), Same0 w w3 → TabV w3.heap.size w3 cs σ → Bnd σ → Calls Tryz.prog 63 #[.pointer (some ⟨w3.heap.size, 0, none⟩)] (w3.alloc (.cells cs 133)) fun e w' => ∃ v l, e = .returned v ∧ BOwn w.heap.size w' v l (blN σ 100) ∧ Same0 w w') := fun w3 cs hk3 ht3 hb3 => by
          have k4 : Same0 w3 (w3.alloc (.cells cs 133)) := (Kept.refl _ w3).alloc _
          refine (binds_any (N := w3.heap.size) (A := w3.heap.size) (w := w3.alloc (.cells cs 133)) ⟨cs, heap_alloc_new w3 _, ht3.same k4⟩ hb3).mono ?_
          rintro e w5 ⟨v, l, rfl, hB, hk5⟩
          have K5 := (hk3.trans' k4)
          have z5 := K5.size
          exact ⟨v, l, rfl, ⟨row_mono hB.row z5, hB.len, fun i x y => ⟨(hB.each i x y).1, row_mono (hB.each i x y).2.1 z5, (hB.each i x y).2.2⟩, hB.apart⟩, K5.trans' hk5⟩
        go_enter Tryz.func30, Tryz.ntmps30
        go_wp2_with (first | (go_at_call 49; refine cp.mono ?_; rintro e w1 ⟨rfl, hk1⟩) | (go_at_call 52; refine (c2.out _ hk1).mono ?_; rintro e w2 ⟨uo, uc, rfl, hk2, cw⟩) | (go_at_call 62; refine cw.mono ?_; rintro e w3 ⟨cs, f, rfl, hcs, hk3, rfl, hone, htt⟩; have hst := HST.out w3 cs hcs hone; have cbb := cB.out w3 cs hk3 (htt σ rfl).1 (htt σ rfl).2; clear htt) | (go_at_call 63; refine cbb.mono ?_; rintro e w5 ⟨v, l, rfl, hB, hk5⟩))
        go_ret3
        refine ⟨v, l, by rw [HE'.out]; rfl, ?_, hk5⟩
        rw [HB.out]; exact hB
    · have hq' : (placeE L t a == 0) = false := by simpa using hq
      have HE' : Hid (matchE L p t a = placeE L t a ∧ matchS L p t a = none ∧ matchB L p t a = []) := ⟨HE, match_bad (by rw [HE]; exact hq)⟩
      clear HE hz
      go_enter Tryz.func30, Tryz.ntmps30
      go_wp2_with (first | (go_at_call 49; refine cp.mono ?_; rintro e w1 ⟨rfl, hk1⟩) | (go_at_call 52; refine (cs1.out _ hk1).mono ?_; rintro e w2 ⟨v, rfl, hr, hk2⟩))
      go_ret3
      refine ⟨.slice none 0 0, [], by rw [HE'.out.1, HE'.out.2.1]; rfl, ?_, hk1.trans' hk2⟩
      rw [HE'.out.2.2]; exact BOwn.nil _ _
  · have hz' : (checkE L p == 0) = false := by simpa using hz
    have HE' : Hid (matchE L p t a = checkE L p ∧ matchS L p t a = none ∧ matchB L p t a = []) := by
      have e : matchE L p t a = checkE L p := by simp [matchE, hz]
      exact ⟨e, match_bad (by rw [e]; exact hz)⟩
    go_enter Tryz.func30, Tryz.ntmps30
    go_wp2_with (first | (go_at_call 49; refine cp.mono ?_; rintro e w1 ⟨rfl, hk1⟩))
    go_ret3
    refine ⟨.slice none 0 0, [], by rw [HE'.out.1, HE'.out.2.1]; rfl, ?_, hk1⟩
    rw [HE'.out.2.2]; exact BOwn.nil _ _
end Go.Proofs.YtlemcinjalepkaaGreat
/- What fits is made again, and an instance fits: in plain words; no program in sight. -/
namespace Go.Proofs.YtlemcinjalepkaaGreat
set_option linter.unusedVariables false
/-- The variable's number of a negative one. -/
def vn (n : Int) : Nat := (-n).toNat
theorem mw_ext {L : List Sym} {p ts : List Int} {σ σ' : Tb} (he : Even L p ts) (h : mw L p ts σ = some σ') : ∀ v, σ v ≠ [] → σ' v = σ v := by
  induction p generalizing ts σ with
  | nil => simp [mw] at h; subst h; intros; rfl
  | cons n r ih =>
    obtain ⟨x, ts', rfl, h1, h2⟩ := he.cons
    intro v hv
    by_cases hn : 0 ≤ n
    · rw [mw_sym hn] at h
      by_cases e : x = n
      · rw [if_pos e] at h; exact ih (h1 hn e) h v hv
      · rw [if_neg e] at h; cases h
    · obtain ⟨m, g1, g2, g3, g4, g5, g6⟩ := h2 hn
      by_cases hs : σ (-n).toNat = []
      · rw [mw_new hn hs, g5] at h
        have hne : v ≠ (-n).toNat := fun e => hv (by rw [e]; exact hs)
        have := ih g6 h v (by rw [upd_else hne]; exact hv)
        rw [this, upd_else hne]
      · rw [mw_old hn hs, g5] at h
        split at h
        · exact ih g6 h v hv
        · cases h
theorem mw_made {L : List Sym} {p ts : List Int} {σ σ' : Tb} (he : Even L p ts) (h : mw L p ts σ = some σ') : appT σ' p = ts := by
  induction p generalizing ts σ with
  | nil => rw [he.nil]; rfl
  | cons n r ih =>
    obtain ⟨x, ts', rfl, h1, h2⟩ := he.cons
    by_cases hn : 0 ≤ n
    · rw [mw_sym hn] at h
      by_cases e : x = n
      · rw [if_pos e] at h
        rw [app_cons, ih (h1 hn e) h, inst, if_pos (.inl hn), e]; rfl
      · rw [if_neg e] at h; cases h
    · obtain ⟨m, g1, g2, g3, g4, g5, g6⟩ := h2 hn
      have hne : headT L (x :: ts') ≠ [] := fun e => by rw [e] at g5; simp at g5; omega
      have fin : σ' (-n).toNat = headT L (x :: ts') → appT σ' r = (x :: ts').drop m → appT σ' (n :: r) = x :: ts' := fun q1 q2 => by
        rw [app_cons, q2, inst, if_neg (by rw [q1]; simp [hne, hn]), q1, g4, List.take_append_drop]
      by_cases hs : σ (-n).toNat = []
      · rw [mw_new hn hs, g5] at h
        refine fin ?_ (ih g6 h)
        have := mw_ext g6 h (-n).toNat (by rw [upd_same]; exact hne)
        rw [this, upd_same]
      · rw [mw_old hn hs, g5] at h
        split at h
        · rename_i hq
          exact fin (by rw [mw_ext g6 h _ hs, hq]) (ih g6 h)
        · cases h
theorem mw_vars {L : List Sym} {p ts : List Int} {σ σ' : Tb} (he : Even L p ts) (h : mw L p ts σ = some σ') (v : Nat) : σ' v ≠ [] ↔ (σ v ≠ [] ∨ ∃ n ∈ p, n < 0 ∧ (-n).toNat = v) := by
  induction p generalizing ts σ with
  | nil => simp [mw] at h; subst h; simp
  | cons n r ih =>
    obtain ⟨x, ts', rfl, h1, h2⟩ := he.cons
    by_cases hn : 0 ≤ n
    · rw [mw_sym hn] at h
      by_cases e : x = n
      · rw [if_pos e] at h
        rw [ih (h1 hn e) h]
        constructor
        · rintro (q | ⟨y, q1, q2⟩)
          · exact .inl q
          · exact .inr ⟨y, List.mem_cons_of_mem _ q1, q2⟩
        · rintro (q | ⟨y, q1, q2, q3⟩)
          · exact .inl q
          · rcases List.mem_cons.1 q1 with q | q
            · subst q; omega
            · exact .inr ⟨y, q, q2, q3⟩
      · rw [if_neg e] at h; cases h
    · obtain ⟨m, g1, g2, g3, g4, g5, g6⟩ := h2 hn
      have hne : headT L (x :: ts') ≠ [] := fun e => by rw [e] at g5; simp at g5; omega
      have key : ∀ τ : Tb, (∀ u, τ u ≠ [] ↔ (σ u ≠ [] ∨ u = (-n).toNat)) → (σ' v ≠ [] ↔ (τ v ≠ [] ∨ ∃ n ∈ r, n < 0 ∧ (-n).toNat = v)) → (σ' v ≠ [] ↔ (σ v ≠ [] ∨ ∃ y ∈ n :: r, y < 0 ∧ (-y).toNat = v)) := fun τ q1 q2 => by
        rw [q2, q1]
        constructor
        · rintro ((q | q) | ⟨y, q3, q4⟩)
          · exact .inl q
          · exact .inr ⟨n, by simp, by omega, q.symm⟩
          · exact .inr ⟨y, List.mem_cons_of_mem _ q3, q4⟩
        · rintro (q | ⟨y, q3, q4, q5⟩)
          · exact .inl (.inl q)
          · rcases List.mem_cons.1 q3 with q | q
            · subst q; exact .inl (.inr q5.symm)
            · exact .inr ⟨y, q, q4, q5⟩
      by_cases hs : σ (-n).toNat = []
      · rw [mw_new hn hs, g5] at h
        refine key _ (fun u => ?_) (ih g6 h)
        by_cases e : u = (-n).toNat
        · subst e; rw [upd_same]; simp [hne]
        · rw [upd_else e]; simp [e]
      · rw [mw_old hn hs, g5] at h
        split at h
        · refine key σ (fun u => ?_) (ih g6 h)
          constructor
          · exact .inl
          · rintro (q | q)
            · exact q
            · rw [q]; exact hs
        · cases h
theorem sub_check {L : List Sym} {ts : List Int} {m : Nat} (hb : badE L ts = 0) (hl : ts.length ≤ 2000) (h : scan L 1 ts = some m) : checkE L (ts.take m) = 0 := by
  obtain ⟨h1, h2⟩ := scan_need h
  refine checkE_zero.2 ⟨by rw [List.length_take]; omega, ?_, h2⟩
  rw [badE_zero] at hb ⊢
  exact fun x hx => hb x (List.mem_of_mem_take hx)
theorem mw_good {L : List Sym} {p ts : List Int} {σ σ' : Tb} (he : Even L p ts) (hb : badE L ts = 0) (hl : ts.length ≤ 2000) (h : mw L p ts σ = some σ') (hσ : ∀ v, σ v ≠ [] → checkE L (σ v) = 0) : ∀ v, σ' v ≠ [] → checkE L (σ' v) = 0 := by
  induction p generalizing ts σ with
  | nil => simp [mw] at h; subst h; exact hσ
  | cons n r ih =>
    obtain ⟨x, ts', rfl, h1, h2⟩ := he.cons
    have hbd : ∀ m, badE L ((x :: ts').drop m) = 0 := fun m => by
      rw [badE_zero] at hb ⊢
      exact fun y hy => hb y (List.mem_of_mem_drop hy)
    by_cases hn : 0 ≤ n
    · rw [mw_sym hn] at h
      by_cases e : x = n
      · rw [if_pos e] at h
        exact ih (h1 hn e) (hbd 1) (by simp at hl; omega) h hσ
      · rw [if_neg e] at h; cases h
    · obtain ⟨m, g1, g2, g3, g4, g5, g6⟩ := h2 hn
      have hdl : ((x :: ts').drop m).length ≤ 2000 := by rw [List.length_drop]; omega
      by_cases hs : σ (-n).toNat = []
      · rw [mw_new hn hs, g5] at h
        refine ih g6 (hbd m) hdl h (fun v hv => ?_)
        by_cases e : v = (-n).toNat
        · subst e; rw [upd_same, g4]; exact sub_check hb hl g1
        · rw [upd_else e] at hv ⊢; exact hσ v hv
      · rw [mw_old hn hs, g5] at h
        split at h
        · exact ih g6 (hbd m) hdl h hσ
        · cases h
/-! ### the table of the binds told -/
def cutT (σ : Tb) (n : Nat) : Tb := fun v => if v < n then σ v else []
theorem tab_bl {L : List Sym} {σ : Tb} (h0 : σ 0 = []) (hg : ∀ v, σ v ≠ [] → checkE L (σ v) = 0) (n : Nat) (hn : n ≤ 100) (rest : List Bd) : tabF L (blN σ n ++ rest) noT = tabF L rest (cutT σ n) := by
  induction n generalizing rest with
  | zero => rw [blN_zero]; congr 1
  | succ n ih =>
    have hc : ∀ u, cutT σ (n + 1) u = if u = n then σ n else cutT σ n u := fun u => by
      unfold cutT
      by_cases e : u = n
      · subst e; simp
      · by_cases e2 : u < n
        · rw [if_pos (by omega), if_neg e, if_pos e2]
        · rw [if_neg (by omega), if_neg e, if_neg e2]
    by_cases hs : σ n = []
    · rw [blN_no hs, ih (by omega)]
      congr 1
      funext u
      rw [hc u]
      split
      · rename_i e; rw [e, hs]; simp [cutT]
      · rfl
    · have h1 : n ≠ 0 := fun e => hs (by rw [e]; exact h0)
      rw [blN_yes hs, List.append_assoc, ih (by omega)]
      rw [List.cons_append, List.nil_append, tab_go (by simp [cutT]; omega) (hg n hs)]
      congr 1
      funext u
      rw [hc u]
      simp [updT]
theorem bl_pair (σ : Tb) (n : Nat) : (blN σ n).Pairwise (fun a b => a.1 < b.1) := by
  induction n with
  | zero => simp [blN]
  | succ n ih =>
    by_cases hs : σ n = []
    · rw [blN_no hs]; exact ih
    · rw [blN_yes hs, List.pairwise_append]
      refine ⟨ih, by simp, fun a ha b hb => ?_⟩
      simp at hb; subst hb
      obtain ⟨y, hy, rfl, _⟩ := blN_mem ha
      simp; omega
theorem bl_rise {σ : Tb} {n i : Nat} (h : i + 1 < (blN σ n).length) : (blN σ n)[i].1 < (blN σ n)[i + 1].1 :=
  List.pairwise_iff_getElem.1 (bl_pair σ n) i (i + 1) (by omega) h (by omega)
theorem vs_from {o t : List Int} {v : Int} (h : v ∈ vs o t) : v ∈ o ∨ ∃ x ∈ t, isV x = true ∧ v = -x := by
  induction t generalizing o with
  | nil => exact .inl h
  | cons y r ih =>
    rcases ih (o := vstep o y) h with q | ⟨x, q1, q2⟩
    · unfold vstep at q
      split at q
      · rename_i hy
        rcases List.mem_append.1 q with q | q
        · exact .inl q
        · simp at q; exact .inr ⟨y, by simp, hy.1, q⟩
      · exact .inl q
    · exact .inr ⟨x, List.mem_cons_of_mem _ q1, q2⟩
theorem bl_mem_iff {σ : Tb} {n v : Nat} (hv : v < n) : ((v : Int), σ v) ∈ blN σ n ↔ σ v ≠ [] := by
  constructor
  · intro h
    obtain ⟨y, hy, e, hne⟩ := blN_mem h
    have : y = v := by have := congrArg Prod.fst e; simp at this; omega
    subst this; exact hne
  · intro h
    exact List.mem_map.2 ⟨v, by simp [h, hv], rfl⟩
/-- As many binds as variables. -/
theorem bl_count {σ : Tb} {p : List Int} (hp : ∀ x ∈ p, -99 ≤ x) (h : ∀ v, σ v ≠ [] ↔ ∃ n ∈ p, n < 0 ∧ (-n).toNat = v) : (blN σ 100).length = (varsL p).length := by
  have h1 : ((blN σ 100).map Prod.fst).Nodup := by
    rw [List.nodup_iff_pairwise_ne, List.pairwise_map]
    exact (bl_pair σ 100).imp (fun q => by omega)
  have h2 : (varsL p).Nodup := (neat_vs neat_nil p).1
  have h3 : ((blN σ 100).map Prod.fst).Perm (varsL p) := by
    rw [List.perm_ext_iff_of_nodup h1 h2]
    intro z
    constructor
    · intro hz
      obtain ⟨b, hb, rfl⟩ := List.mem_map.1 hz
      obtain ⟨v, hv, rfl, hne⟩ := blN_mem hb
      obtain ⟨n, hn, hn0, rfl⟩ := (h v).1 hne
      have := vs_mem (o := []) hn (isV_iff.2 ⟨hp n hn, by omega⟩)
      have e : (((-n).toNat : Nat) : Int) = -n := by omega
      simpa [e, varsL] using this
    · intro hz
      rcases vs_from hz with q | ⟨x, q1, q2, rfl⟩
      · simp at q
      · obtain ⟨q3, q4⟩ := isV_iff.1 q2
        have hne : σ (-x).toNat ≠ [] := (h _).2 ⟨x, q1, by omega, rfl⟩
        have := (bl_mem_iff (σ := σ) (n := 100) (v := (-x).toNat) (by omega)).2 hne
        exact List.mem_map.2 ⟨_, this, by simp; omega⟩
  have := h3.length_eq
  simpa using this
theorem fits_tab {L : List Sym} {p ts : List Int} {σ : Tb} (hp : ∀ x ∈ p, -99 ≤ x) (he : Even L p ts) (hb : badE L ts = 0) (hl : ts.length ≤ 2000) (h : mw L p ts noT = some σ) : tabF L (blN σ 100) noT = .ok σ ∧ (∀ v, σ v ≠ [] ↔ ∃ n ∈ p, n < 0 ∧ (-n).toNat = v) := by
  have hv : ∀ v, σ v ≠ [] ↔ ∃ n ∈ p, n < 0 ∧ (-n).toNat = v := fun v => by
    rw [mw_vars he h v]; simp [noT]
  have hg := mw_good he hb hl h (fun v q => by simp [noT] at q)
  have hz : ∀ v, 100 ≤ v ∨ v = 0 → σ v = [] := fun v q => Classical.byContradiction fun hne => by
    obtain ⟨n, hn, hn0, rfl⟩ := (hv v).1 hne
    have := hp n hn
    omega
  refine ⟨?_, hv⟩
  have := tab_bl (hz 0 (.inr rfl)) hg 100 (Nat.le_refl _) []
  rw [List.append_nil] at this
  rw [this]
  show Except.ok (cutT σ 100) = _
  congr 1
  funext v
  unfold cutT
  split
  · rfl
  · exact (hz v (.inl (by omega))).symm
theorem match_back {L : List Sym} {p t : List Int} {q : Nat} {σ : Tb} (h1 : checkE L p = 0) (h2 : placeE L t q = 0) (hS : matchS L p t q = some σ) :
    applyE L p (blN σ 100) = 0 ∧ applyA L p (blN σ 100) = subN L t q ∧ (blN σ 100).length = (varsL p).length := by
  obtain ⟨q', e, hq, h0, hl, hT⟩ := place_zero h2
  obtain rfl : q = q' := by omega
  obtain ⟨p1, p2, p3⟩ := checkE_zero.1 h1
  have pv : ∀ x ∈ p, -99 ≤ x := fun x hx => ((badE_zero.1 p2) x hx).2
  have hE : matchE L p t q = 0 := by simp [matchE, h1, h2]
  have hM : mw L p (subN L t q) noT = some σ := by
    rw [matchS, if_pos hE] at hS; exact hS
  have hev := even_term p3 (sub_need hT hq)
  have hlen : (subN L t q).length ≤ 2000 := by rw [sub_length hT hq]; have := endN_le hT hq; omega
  have hbad : badE L (subN L t q) = 0 := by
    have := (checkE_zero.1 h0).2.1
    rw [badE_zero] at this ⊢
    exact fun x hx => this x (List.mem_of_mem_take (List.mem_of_mem_drop hx))
  obtain ⟨f1, f2⟩ := fits_tab pv hev hbad hlen hM
  have hmade := mw_made hev hM
  obtain ⟨a1, a2⟩ := apply_ok h1 f1 (by rw [hmade]; omega)
  exact ⟨a1, by rw [a2, hmade], bl_count pv f2⟩
end Go.Proofs.YtlemcinjalepkaaGreat
/- The walk of the document's Bound; that an instance fits, in plain words. -/
namespace Go.Proofs.YtlemcinjalepkaaGreat
set_option maxRecDepth 100000
set_option linter.unusedVariables false
open Go.RowKit
attribute [local go_sem ↓] Go.wp_at_zero Go.wp_at_succ
theorem bound_round {bs : List Bd} {v : Int} {i : Nat} (h : boundL bs v = boundL (bs.drop i) v) (hi : i < bs.length) : boundL bs v = if bs[i].1 = v then some bs[i].2 else boundL (bs.drop (i + 1)) v := by
  rw [h, List.drop_eq_getElem_cons hi, bound_cons]
/-- No address: nothing there. -/
def NilOk (ao : Option Addr) (cap : Nat) (u : List Int) : Prop := ao = none → u.length = 0 ∧ cap = 0
theorem tab_bound {L : List Sym} {bs : List Bd} {τ σ : Tb} (h : tabF L bs τ = .ok σ) (v : Nat) : (τ v ≠ [] → σ v = τ v ∧ boundL bs (v : Int) = none) ∧ (τ v = [] → (boundL bs (v : Int) = none ∧ σ v = []) ∨ ∃ u, boundL bs (v : Int) = some u ∧ σ v = u ∧ checkE L u = 0 ∧ 1 ≤ v ∧ v ≤ 99) := by
  induction bs generalizing τ with
  | nil =>
    simp [tabF] at h; subst h
    exact ⟨fun _ => ⟨rfl, rfl⟩, fun q => .inl ⟨rfl, q⟩⟩
  | cons b r ih =>
    rw [tabF] at h
    split at h
    · cases h
    · rename_i hc
      split at h
      · cases h
      · rename_i hk
        have hk : checkE L b.2 = 0 := by simpa using hk
        have hne : b.2 ≠ [] := fun e => by
          have := isT_pos (checkE_zero.1 hk).2.2
          rw [e] at this; simp at this
        have hτ : τ b.1.toNat = [] := Classical.byContradiction fun q => hc (.inr (.inr q))
        have hlo : 1 ≤ b.1 := by omega
        have hhi : b.1 ≤ 99 := by omega
        obtain ⟨i1, i2⟩ := ih h
        rw [bound_cons]
        by_cases e : v = b.1.toNat
        · have e' : b.1 = (v : Int) := by omega
          obtain ⟨j1, j2⟩ := i1 (by rw [e, upd_same]; exact hne)
          rw [if_pos e']
          refine ⟨fun q => absurd (by rw [e]; exact hτ) q, fun _ => .inr ⟨b.2, rfl, ?_, hk, by omega, by omega⟩⟩
          rw [j1, e, upd_same]
        · have e' : ¬ b.1 = (v : Int) := by omega
          rw [if_neg e']
          rw [upd_else e] at i1 i2
          exact ⟨i1, i2⟩
theorem tab_no {L : List Sym} {bs : List Bd} {σ : Tb} (h : tabF L bs noT = .ok σ) (v : Nat) : (boundL bs (v : Int) = none ∧ σ v = []) ∨ ∃ u, boundL bs (v : Int) = some u ∧ σ v = u ∧ checkE L u = 0 ∧ 1 ≤ v ∧ v ≤ 99 := (tab_bound h v).2 rfl
theorem need_app {L : List Sym} {σ : Tb} (hg : ∀ v, σ v ≠ [] → IsT L (σ v)) (p : List Int) (k : Nat) : need L k (appT σ p) = need L k p := by
  induction p generalizing k with
  | nil => rfl
  | cons n r ih =>
    rw [app_cons]
    by_cases hn : 0 ≤ n ∨ σ (-n).toNat = []
    · rw [inst, if_pos hn]
      cases k with
      | zero => rfl
      | succ k => simp only [List.cons_append, List.nil_append, need]; exact ih _
    · rw [inst, if_neg hn]
      have hn0 : ¬ 0 ≤ n := fun q => hn (.inl q)
      have hne : σ (-n).toNat ≠ [] := fun q => hn (.inr q)
      have hT := hg _ hne
      rw [need_append]
      cases k with
      | zero =>
        cases hd : σ (-n).toNat with
        | nil => exact absurd hd hne
        | cons x y => simp [need]
      | succ k =>
        have := need_add hT k
        rw [Nat.add_comm 1 k, Nat.zero_add] at this
        rw [this, Option.bind_some, need, arN_neg hn0, Nat.add_zero]
        exact ih k
theorem app_mem {σ : Tb} {p : List Int} {x : Int} (h : x ∈ appT σ p) : x ∈ p ∨ ∃ v, σ v ≠ [] ∧ x ∈ σ v := by
  obtain ⟨n, hn, hx⟩ := List.mem_flatMap.1 h
  unfold inst at hx
  split at hx
  · simp at hx; subst hx; exact .inl hn
  · rename_i q
    exact .inr ⟨(-n).toNat, fun e => q (.inr e), hx⟩
theorem inst_mw {L : List Sym} {σ : Tb} (hg : ∀ v, σ v ≠ [] → IsT L (σ v)) {p : List Int} (hp : ∀ n ∈ p, n < 0 → σ (-n).toNat ≠ []) {τ : Tb} (hτ : ∀ v, τ v = [] ∨ τ v = σ v) : ∃ τ', mw L p (appT σ p) τ = some τ' ∧ ∀ v, τ' v = [] ∨ τ' v = σ v := by
  induction p generalizing τ with
  | nil => exact ⟨τ, rfl, hτ⟩
  | cons n r ih =>
    have hp' : ∀ n ∈ r, n < 0 → σ (-n).toNat ≠ [] := fun m hm => hp m (List.mem_cons_of_mem _ hm)
    rw [app_cons]
    by_cases hn : 0 ≤ n
    · rw [inst, if_pos (.inl hn), List.cons_append, List.nil_append, mw_sym hn, if_pos rfl]
      exact ih hp' hτ
    · have hne := hp n (by simp) (by omega)
      rw [inst, if_neg (by simp [hn, hne])]
      have hh : headT L (σ (-n).toNat ++ appT σ r) = σ (-n).toNat := by
        rw [headT, need_scan (hg _ hne)]; simp
      have hd : (σ (-n).toNat ++ appT σ r).drop (σ (-n).toNat).length = appT σ r := by simp
      by_cases hs : τ (-n).toNat = []
      · rw [mw_new hn hs, hh, hd]
        refine ih hp' (fun v => ?_)
        by_cases e : v = (-n).toNat
        · subst e; rw [upd_same]; exact .inr rfl
        · rw [upd_else e]; exact hτ v
      · rw [mw_old hn hs, hh, hd, if_pos ((hτ _).resolve_left hs)]
        exact ih hp' hτ
/-- What Apply tells may be matched against. -/
theorem inst_check {L : List Sym} {p : List Int} {bs : List Bd} {σ : Tb} (h1 : checkE L p = 0) (h2 : tabF L bs noT = .ok σ) (h3 : ¬ 2000 < (appT σ p).length) : checkE L (appT σ p) = 0 ∧ (∀ v, σ v ≠ [] → IsT L (σ v)) := by
  have hg : ∀ v, σ v ≠ [] → checkE L (σ v) = 0 := fun v hv => by
    rcases tab_no h2 v with ⟨_, q⟩ | ⟨u, _, q, hk, _⟩
    · exact absurd q hv
    · rw [q]; exact hk
  have hT : ∀ v, σ v ≠ [] → IsT L (σ v) := fun v hv => (checkE_zero.1 (hg v hv)).2.2
  obtain ⟨p1, p2, p3⟩ := checkE_zero.1 h1
  refine ⟨checkE_zero.2 ⟨by omega, ?_, ?_⟩, hT⟩
  · rw [badE_zero] at p2 ⊢
    intro x hx
    rcases app_mem hx with q | ⟨v, hv, q⟩
    · exact p2 x q
    · exact badE_zero.1 (checkE_zero.1 (hg v hv)).2.1 x q
  · show need L 1 _ = _
    rw [need_app hT]; exact p3
theorem inst_match {L : List Sym} {p : List Int} {bs : List Bd} {σ : Tb} (h1 : checkE L p = 0) (h2 : tabF L bs noT = .ok σ) (h3 : ¬ 2000 < (appT σ p).length) : matchE L p (appT σ p) 0 = 0 ∧ ((∀ v ∈ varsL p, boundL bs v ≠ none) → ∃ τ, matchS L p (appT σ p) 0 = some τ ∧ (blN τ 100).length = (varsL p).length ∧ ∀ b ∈ blN τ 100, boundL bs b.1 = some b.2 ∧ b.2.length ≤ 2000) := by
  obtain ⟨hc, hT⟩ := inst_check h1 h2 h3
  obtain ⟨p1, p2, p3⟩ := checkE_zero.1 h1
  obtain ⟨q1, q2, q3⟩ := checkE_zero.1 hc
  have hpos := isT_pos q3
  have pv : ∀ x ∈ p, -99 ≤ x := fun x hx => ((badE_zero.1 p2) x hx).2
  have hpl : placeE L (appT σ p) 0 = 0 := by
    unfold placeE
    rw [hc, if_neg (by simp), if_neg (by omega)]
  have hE : matchE L p (appT σ p) 0 = 0 := by simp [matchE, h1, hpl]
  refine ⟨hE, fun hall => ?_⟩
  have hb : ∀ n ∈ p, n < 0 → σ (-n).toNat ≠ [] := fun n hn hn0 => by
    have hv := vs_mem (o := []) hn (isV_iff.2 ⟨pv n hn, by omega⟩)
    have hnn := hall _ hv
    have e : -n = (((-n).toNat : Nat) : Int) := by omega
    rw [e] at hnn
    rcases tab_no h2 (-n).toNat with ⟨q, _⟩ | ⟨u, _, q, hk, _⟩
    · exact absurd q hnn
    · rw [q]
      intro e
      have := isT_pos (checkE_zero.1 hk).2.2
      rw [e] at this; simp at this
  have hsub : subN L (appT σ p) 0 = appT σ p := by
    rw [subN, endN_zero q3]; simp
  obtain ⟨τ, hm, ht⟩ := inst_mw hT hb (τ := noT) (fun v => .inl rfl)
  have hS : matchS L p (appT σ p) 0 = some τ := by
    rw [matchS, if_pos hE]
    show mw L p (subN L (appT σ p) 0) noT = _
    rw [hsub]; exact hm
  obtain ⟨f1, f2⟩ := fits_tab pv (even_term p3 q3) q2 q1 hm
  refine ⟨τ, hS, bl_count pv f2, fun b hb' => ?_⟩
  obtain ⟨v, hv, rfl, hne⟩ := blN_mem hb'
  have e := (ht v).resolve_left hne
  rcases tab_no h2 v with ⟨_, q⟩ | ⟨u, q1', q2', hk, _⟩
  · exact absurd (by rw [e]; exact q) hne
  · refine ⟨by rw [q1', e, q2'], ?_⟩
    simp only; rw [e, q2']; exact (checkE_zero.1 hk).1
end Go.Proofs.YtlemcinjalepkaaGreat
