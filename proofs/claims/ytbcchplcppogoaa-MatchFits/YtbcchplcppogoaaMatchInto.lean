/- The walk of the document's into: a bind among some, by rising variables. -/
import Derived.Test.YtbcchplcppogoaaMatchBound
namespace Go.Proofs.Ytbcchplcppogoaa
set_option maxRecDepth 100000
set_option linter.unusedVariables false
open Go.RowKit
attribute [local go_sem ↓] Go.wp_at_zero Go.wp_at_succ
/-- A term that is told by its slice, in blocks below n. -/
def TmAt (n : Nat) (w : World) (v : Value) (xs : List Int) : Prop := ∃ ao cap, v = .slice ao xs.length cap ∧ IntsAt w ao xs ∧ xs.length ≤ cap ∧ (ao = none → xs.length = 0 ∧ cap = 0) ∧ ∀ a, ao = some a → xs = [] ∨ a.block < n
theorem TmAt.kept {n : Nat} {w w' : World} {v : Value} {xs : List Int} {S : Nat → Prop} (h : TmAt n w v xs) (hk : Kept S w w') (hs : ∀ k, k < n → ¬ S k) : TmAt n w' v xs := by
  obtain ⟨ao, cap, h1, h2, h3, h4, h5⟩ := h
  refine ⟨ao, cap, h1, ?_, h3, h4, h5⟩
  rcases h2 with e | ⟨b, off, e, hlt, hc⟩
  · exact .inl e
  · rcases h5 _ e with q | q
    · exact .inl q
    · exact IntsAt.kept (.inr ⟨b, off, e, hlt, hc⟩) hk (fun a ea => by rw [e] at ea; cases ea; exact hs _ q)
/-- Binds of the call's own row, their terms in older blocks. -/
structure OutB (base : Nat) (w : World) (v : Value) (l : List (Int × Value)) (bs : List Bd) : Prop where
  row : w.ownsRow base 46 2 v l.length (bcells l)
  len : l.length = bs.length
  each : ∀ i (h : i < l.length) (h' : i < bs.length), l[i].1 = bs[i].1 ∧ TmAt base w l[i].2 bs[i].2
theorem OutB.nil (base : Nat) (w : World) : OutB base w (.slice none 0 0) [] [] := ⟨World.ownsRow_nil _ _ _ _, rfl, fun i h => by simp at h⟩
theorem OutB.more {base : Nat} {wr w2 : World} {lv tv : Value} {l : List (Int × Value)} {bs : List Bd} {n : Int} {xs : List Int} {g cap : Nat} (h : OutB base wr lv l bs) (ht : TmAt base wr tv xs)
    (hr : w2.ownsRow base 46 2 (.slice (some ⟨g, 0, none⟩) (l.length + 1) cap) (l.length + 1) (bcells l ++ [.int .i64 n, tv])) (k2 : Kept (fun k => lv.ownBlock = some k) wr w2) :
    OutB base w2 (.slice (some ⟨g, 0, none⟩) (l.length + 1) cap) (l ++ [(n, tv)]) (bs ++ [(n, xs)]) := by
  have hl := h.len
  have lo : ∀ k, k < base → ¬ lv.ownBlock = some k := fun k hk e => by have := (h.row.lt k e).1; omega
  refine ⟨?_, by simp [hl], fun i h1 h2 => ?_⟩
  · rw [bcells_snoc, List.length_append]; exact hr
  · by_cases hi : i < l.length
    · have hi' : i < bs.length := by omega
      obtain ⟨e1, e2⟩ := h.each i hi hi'
      rw [List.getElem_append_left hi, List.getElem_append_left hi']
      exact ⟨e1, e2.kept k2 lo⟩
    · have hi2 : i = l.length := by simp at h1; omega
      subst hi2
      have e1 : (l ++ [(n, tv)])[l.length] = (n, tv) := by simp
      have e2 : (bs ++ [(n, xs)])[l.length] = (n, xs) := by simp [hl]
      rw [e1, e2]
      exact ⟨rfl, ht.kept k2 lo⟩
theorem OutB.same {base : Nat} {w w' : World} {v : Value} {l : List (Int × Value)} {bs : List Bd} (h : OutB base w v l bs) (hk : Same0 w w') : OutB base w' v l bs :=
  ⟨hk.row h.row (fun _ _ f => f), h.len, fun i h1 h2 => ⟨(h.each i h1 h2).1, (h.each i h1 h2).2.kept hk (fun _ _ f => f)⟩⟩
theorem OutB.at' {base : Nat} {w : World} {v : Value} {l : List (Int × Value)} {bs : List Bd} (h : OutB base w v l bs) : ∃ lo cap, v = .slice lo bs.length cap ∧ BindsAt w lo bs := by
  have hl := h.len
  rcases h.row.2 with ⟨rfl, h0⟩ | ⟨g, cap, cur, rfl, hb, hg, h1, h2, h3, h4⟩
  · have : bs = [] := List.eq_nil_of_length_eq_zero (by omega)
    subst this
    exact ⟨none, 0, rfl, .inl rfl⟩
  · refine ⟨some ⟨g, 0, none⟩, cap, by rw [hl], .inr ⟨g, 0, rfl, lt_of_at hg, fun i hi => ?_⟩⟩
    have hi' : i < l.length := by omega
    obtain ⟨e1, ao, c, y1, y2, y3, y4, _⟩ := h.each i hi' hi
    obtain ⟨x1, x2⟩ := bcells_at hi'
    rw [Nat.zero_add]
    exact ⟨(h.row.cellAt (i * 2) (by omega)).trans (by rw [x1, e1]), ao, c, (h.row.cellAt (i * 2 + 1) (by omega)).trans (by rw [x2, y1]), y2, y3, y4⟩
theorem into_done {bs done : List Bd} {b : Bd} {i : Nat} (hi : i < bs.length) :
    (done ++ intoL (bs.drop i) b = if b.1 < bs[i].1 then done ++ [b] ++ [bs[i]] ++ bs.drop (i + 1) else done ++ [bs[i]] ++ intoL (bs.drop (i + 1)) b) ∧ (done ++ bs.drop i = done ++ [bs[i]] ++ bs.drop (i + 1)) := by
  rw [List.drop_eq_getElem_cons hi, intoL]
  constructor
  · split <;> simp
  · simp
set_option maxHeartbeats 8000000 in
theorem into_any {w : World} {lo uo : Option Addr} {lcap uc : Nat} {bs : List Bd} (hl : BindsAt w lo bs) (hlen : bs.length ≤ 1000) (z : Int) {u : List Int} (hu : IntsAt w uo u) (huc : u.length ≤ uc) (hun : uo = none → u.length = 0 ∧ uc = 0) :
    Calls Try.prog 30 #[.slice lo bs.length lcap, .agg #[.int .i64 z, .slice uo u.length uc]] w fun e w' => ∃ ro rc, e = .returned (.slice ro (intoL bs (z, u)).length rc) ∧ BindsAt w' ro (intoL bs (z, u)) ∧ Same0 w w' := by
  obtain ⟨wb, hwb⟩ : ∃ wb, wb = w.alloc (.cells #[.int .i64 z, .slice uo u.length uc] 46) := ⟨_, rfl⟩
  have kb : Same0 w wb := by rw [hwb]; exact (Kept.refl _ w).alloc _
  have hbox : wb.heap[w.heap.size]? = some (.cells #[.int .i64 z, .slice uo u.length uc] 46 (0, 0)) := by rw [hwb]; exact heap_alloc_new w _
  have zb := kb.size
  have TU : Hid (∀ w', Same0 wb w' → TmAt wb.heap.size w' (.slice uo u.length uc) u) := fun w' hk => by
    refine ⟨uo, uc, rfl, hu.same (kb.trans' hk), huc, hun, fun a e => ?_⟩
    rcases hu with q | ⟨b, off, e', hlt, _⟩
    · exact .inl q
    · rw [e] at e'; cases e'; exact .inr (Nat.lt_of_lt_of_le hlt zb)
  have BX : Hid (∀ w', Same0 wb w' → w'.cell? ⟨w.heap.size, 0, none⟩ = some (.int .i64 z) ∧ w'.cell? ⟨w.heap.size, 1, none⟩ = some (.slice uo u.length uc)) := fun w' hk => ⟨cellAt (hk.at0 hbox) 0, cellAt (hk.at0 hbox) 1⟩
  have EL : Hid (∀ w' i (h : i < bs.length), Same0 wb w' → ∃ lb off ao cap, lo = some ⟨lb, off, none⟩ ∧ lb < wb.heap.size ∧ w'.cell? ⟨lb, off + i * 2, none⟩ = some (.int .i64 bs[i].1) ∧ w'.cell? ⟨lb, off + i * 2 + 1, none⟩ = some (.slice ao bs[i].2.length cap) ∧ TmAt wb.heap.size w' (.slice ao bs[i].2.length cap) bs[i].2) := fun w' i h hk => by
    obtain ⟨lb, off, ao, cap, rfl, hlb, c1, c2, c3, c4, c5⟩ := hl.get h
    have KK := kb.trans' hk
    refine ⟨lb, off, ao, cap, rfl, Nat.lt_of_lt_of_le hlb zb, (KK.cell (p := ⟨lb, off + i * 2, none⟩) hlb (fun f => f)).trans c1, (KK.cell (p := ⟨lb, off + i * 2 + 1, none⟩) hlb (fun f => f)).trans c2, ao, cap, rfl, c3.same KK, c4, c5, fun a e => ?_⟩
    rcases c3 with q | ⟨b, off', e', hlt, _⟩
    · exact .inl q
    · rw [e] at e'; cases e'; exact .inr (Nat.lt_of_lt_of_le hlt zb)
  clear hbox hl hu huc hun
  go_enter Try.func30, Try.ntmps30
  go_wp2
  rw [← hwb]
  clear hwb
  generalize hN : w.heap.size = N at *
  go_loopw [5, 6, 7] (fun ov pv iv wr => ∃ (i : Nat) (put : Bool) (l : List (Int × Value)) (done : List Bd), i ≤ bs.length ∧ iv = .int .i64 (i : Int) ∧ pv = .bool put ∧ OutB wb.heap.size wr ov l done ∧ l.length ≤ i + put.toNat ∧ Hid (intoL bs (z, u) = done ++ (if put then bs.drop i else intoL (bs.drop i) (z, u))) ∧ Same0 wb wr) (fun _ _ iv _ => bs.length - (intOf iv).toNat)
  case atStart => exact ⟨0, false, [], [], Nat.zero_le _, rfl, rfl, OutB.nil _ _, by simp, rfl, Kept.refl _ _⟩
  case round =>
    obtain ⟨i, put, l, done, hi, rfl, rfl, hO, hll, hq, hs⟩ := hrel
    obtain ⟨oo, oc, rfl⟩ := row_shape hO.row
    have hsz := hs.size
    by_cases hlt : i < bs.length
    · obtain ⟨lb, off, ao, cap, rfl, hlb, c1, c2, tm⟩ := EL.out wr i hlt hs
      obtain ⟨x1, x2⟩ := BX.out wr hs
      obtain ⟨q1, q2⟩ := into_done (done := done) (b := (z, u)) hlt
      have i1 : (0 : Int) ≤ (i : Int) := by omega
      have i2 : (i : Int) < (bs.length : Int) := by omega
      obtain ⟨x, hx⟩ : ∃ x, x = bs[i].1 := ⟨_, rfl⟩
      obtain ⟨y, hy⟩ : ∃ y, y = bs[i].2 := ⟨_, rfl⟩
      have hp : bs[i] = (x, y) := by rw [hx, hy]
      rw [hp] at q1 q2
      rw [← hx] at c1
      rw [← hy] at c2 tm
      clear hx hy hp
      have d1 : wr.drew.cell? ⟨lb, off + i * 2, none⟩ = some (.int .i64 x) := c1
      have d3 : wr.drew.cell? ⟨N, 0, none⟩ = some (.int .i64 z) := x1
      have STEP : Hid (∀ (w' w5 : World) (g gcap : Nat), Same0 wr w' → w5.ownsRow wb.heap.size 46 2 (.slice (some ⟨g, 0, none⟩) (l.length + 1) gcap) (l.length + 1) (bcells l ++ [.int .i64 x, .slice ao y.length cap]) → Kept (fun k => Value.ownBlock (.slice oo l.length oc) = some k) w' w5 → OutB wb.heap.size w5 (.slice (some ⟨g, 0, none⟩) (l.length + 1) gcap) (l ++ [(x, .slice ao y.length cap)]) (done ++ [(x, y)]) ∧ Same0 wb w5) := fun w' w5 g gcap kd hr5 hk5 =>
        ⟨(hO.same kd).more (tm.kept kd (fun _ _ f => f)) hr5 hk5, (hs.trans' kd).trans hk5 (fun k hk e => by have := (hO.row.lt k e).1; omega)⟩
      have ROW : Hid (∀ w', Same0 wr w' → w'.ownsRow wb.heap.size 46 2 (.slice oo l.length oc) l.length (bcells l) ∧ wb.heap.size ≤ w'.heap.size) := fun w' kd => ⟨(hO.same kd).row, Nat.le_trans hsz kd.size⟩
      have hll2 : l.length ≤ 2000 := by have := Bool.toNat_le put; omega
      cases put with
      | true =>
        have HQ : Hid (intoL bs (z, u) = (done ++ [(x, y)]) ++ (if true = true then bs.drop (i + 1) else intoL (bs.drop (i + 1)) (z, u))) := by
          have := hq.out
          simp only [if_true] at this ⊢
          show _ = _
          rw [this, q2]
        clear hq q1 q2 hO tm EL TU BX
        go_wp2
        go_quiet (fail)
        have kd : Same0 wr (wr.drewN nq) := (Kept.refl _ wr).drewN nq
        obtain ⟨hrow, hsz2⟩ := ROW.out _ kd
        go_wp2_with (first | (at_builtin; refine wpList_bind rfl _ _ rfl wb.heap.size l _ rfl hrow x ao y.length cap rfl hsz2 (by omega) ?_; intro g gcap w5 hr5 hk5 _))
        obtain ⟨hO5, hs5⟩ := STEP.out _ w5 g gcap kd hr5 hk5
        have hl5 : (l ++ [(x, Value.slice ao y.length cap)]).length ≤ i + 1 + true.toNat := by simp at hll ⊢; omega
        go_roundw
        case rel => first | exact ⟨i + 1, true, _, _, by omega, by go_num, rfl, hO5, hl5, HQ, hs5⟩ | ((repeat apply Exists.intro); exact ⟨⟨i + 1, true, _, _, by omega, by go_num, rfl, hO5, hl5, HQ, hs5⟩, rfl⟩)
        case measure => simp [intOf]; omega
      | false =>
        by_cases hzx : z < x
        · have HQ : Hid (intoL bs (z, u) = (done ++ [(z, u)] ++ [(x, y)]) ++ (if true = true then bs.drop (i + 1) else intoL (bs.drop (i + 1)) (z, u))) := by
            have := hq.out
            simp only [Bool.false_eq_true, if_false, if_true] at this ⊢
            show _ = _
            rw [this, q1, if_pos hzx]
          have hzd : decide (z < x) = true := by simpa using hzx
          have tu := TU.out wr hs
          have ST1 : Hid (∀ (w' w5 : World) (g gcap : Nat), Same0 wr w' → w5.ownsRow wb.heap.size 46 2 (.slice (some ⟨g, 0, none⟩) (l.length + 1) gcap) (l.length + 1) (bcells l ++ [.int .i64 z, .slice uo u.length uc]) → Kept (fun k => Value.ownBlock (.slice oo l.length oc) = some k) w' w5 → OutB wb.heap.size w5 (.slice (some ⟨g, 0, none⟩) (l.length + 1) gcap) (l ++ [(z, .slice uo u.length uc)]) (done ++ [(z, u)]) ∧ Same0 wb w5) := fun w' w5 g gcap kd hr5 hk5 =>
            ⟨(hO.same kd).more (tu.kept kd (fun _ _ f => f)) hr5 hk5, (hs.trans' kd).trans hk5 (fun k hk e => by have := (hO.row.lt k e).1; omega)⟩
          have C5 : Hid (∀ (w' w5 : World), Same0 wr w' → Kept (fun k => Value.ownBlock (.slice oo l.length oc) = some k) w' w5 → w5.cell? ⟨lb, off + i * 2, none⟩ = some (.int .i64 x) ∧ w5.cell? ⟨lb, off + i * 2 + 1, none⟩ = some (.slice ao y.length cap) ∧ TmAt wb.heap.size w5 (.slice ao y.length cap) y) := fun w' w5 kd hk5 => by
            have kk : Kept (fun k => Value.ownBlock (.slice oo l.length oc) = some k) wr w5 := (kd.mono (fun _ _ f => f.elim)).trans hk5 (fun _ _ e => e)
            have hno : ∀ k, k < wb.heap.size → ¬ Value.ownBlock (.slice oo l.length oc) = some k := fun k hk e => by have := (hO.row.lt k e).1; omega
            exact ⟨(kk.cell (p := ⟨lb, off + i * 2, none⟩) (Nat.lt_of_lt_of_le hlb hsz) (hno lb hlb)).trans c1, (kk.cell (p := ⟨lb, off + i * 2 + 1, none⟩) (Nat.lt_of_lt_of_le hlb hsz) (hno lb hlb)).trans c2, tm.kept kk hno⟩
          clear hq q1 q2 hO tm EL TU BX STEP tu
          go_wp2
          go_quiet (fail)
          have kd : Same0 wr (wr.drewN nq) := (Kept.refl _ wr).drewN nq
          obtain ⟨hrow, hsz2⟩ := ROW.out _ kd
          go_wp2_with (first
            | (at_builtin; refine wpList_bind rfl _ _ rfl wb.heap.size l _ rfl hrow z uo u.length uc rfl hsz2 (by omega) ?_; intro g gcap w5 hr5 hk5 _; obtain ⟨hO5, hs5⟩ := ST1.out _ w5 g gcap kd hr5 hk5; obtain ⟨y1, y2, y3⟩ := C5.out _ w5 kd hk5; have hrow5 : w5.ownsRow wb.heap.size 46 2 (.slice (some ⟨g, 0, none⟩) (l.length + 1) gcap) (l ++ [(z, Value.slice uo u.length uc)]).length (bcells (l ++ [(z, Value.slice uo u.length uc)])) := (by have := hO5.row; exact this))
            | (at_builtin; refine wpList_bind rfl _ _ rfl wb.heap.size (l ++ [(z, Value.slice uo u.length uc)]) _ rfl hrow5 x ao y.length cap rfl hs5.size (by simp; omega) ?_; intro g6 gcap6 w6 hr6 hk6 _))
          have hO6 := hO5.more y3 (by have e : (l ++ [(z, Value.slice uo u.length uc)]).length + 1 = (l ++ [(z, Value.slice uo u.length uc)]).length + 1 := rfl; exact hr6) hk6
          have e6 : (l ++ [(z, Value.slice uo u.length uc)]).length + 1 = l.length + 1 + 1 := by simp
          rw [e6] at hO6
          have hs6 : Same0 wb w6 := hs5.trans hk6 (fun k hk e => by have := (hO5.row.lt k e).1; omega)
          have hl6 : (l ++ [(z, Value.slice uo u.length uc)] ++ [(x, Value.slice ao y.length cap)]).length ≤ i + 1 + true.toNat := by simp at hll ⊢; omega
          go_roundw
          case rel => first | exact ⟨i + 1, true, _, _, by omega, by go_num, rfl, hO6, hl6, HQ, hs6⟩ | ((repeat apply Exists.intro); exact ⟨⟨i + 1, true, _, _, by omega, by go_num, rfl, hO6, hl6, HQ, hs6⟩, rfl⟩)
          case measure => simp [intOf]; omega
        · have HQ : Hid (intoL bs (z, u) = (done ++ [(x, y)]) ++ (if false = true then bs.drop (i + 1) else intoL (bs.drop (i + 1)) (z, u))) := by
            have := hq.out
            simp only [Bool.false_eq_true, if_false] at this ⊢
            show _ = _
            rw [this, q1, if_neg hzx]
          have hzd : decide (z < x) = false := by simpa using hzx
          clear hq q1 q2 hO tm EL TU BX
          go_wp2
          go_quiet (fail)
          have kd : Same0 wr (wr.drewN nq) := (Kept.refl _ wr).drewN nq
          obtain ⟨hrow, hsz2⟩ := ROW.out _ kd
          go_wp2_with (first | (at_builtin; refine wpList_bind rfl _ _ rfl wb.heap.size l _ rfl hrow x ao y.length cap rfl hsz2 (by omega) ?_; intro g gcap w5 hr5 hk5 _))
          obtain ⟨hO5, hs5⟩ := STEP.out _ w5 g gcap kd hr5 hk5
          have hl5 : (l ++ [(x, Value.slice ao y.length cap)]).length ≤ i + 1 + false.toNat := by simp at hll ⊢; omega
          go_roundw
          case rel => first | exact ⟨i + 1, false, _, _, by omega, by go_num, rfl, hO5, hl5, HQ, hs5⟩ | ((repeat apply Exists.intro); exact ⟨⟨i + 1, false, _, _, by omega, by go_num, rfl, hO5, hl5, HQ, hs5⟩, rfl⟩)
          case measure => simp [intOf]; omega
    · have hdr : bs.drop i = [] := List.drop_eq_nil_of_le (by omega)
      have hll2 : l.length ≤ 2000 := by have := Bool.toNat_le put; omega
      cases put with
      | true =>
        have HQ : Hid (intoL bs (z, u) = done) := by
          have := hq.out
          rw [hdr] at this
          simpa [Hid] using this
        obtain ⟨ro, rc, hv, hBA⟩ := hO.at'
        have HV : Hid (Value.slice oo l.length oc = .slice ro done.length rc) := hv
        clear hq hO EL TU BX hdr hv
        go_wp2
        go_ret
        refine ⟨ro, rc, ?_, ?_, kb.trans' hs⟩
        · rw [HQ.out, ← HV.out]; rfl
        · rw [HQ.out]; exact hBA
      | false =>
        have HQ : Hid (intoL bs (z, u) = done ++ [(z, u)]) := by
          have := hq.out
          rw [hdr] at this
          simpa [Hid, intoL] using this
        obtain ⟨x1, x2⟩ := BX.out wr hs
        have tu := TU.out wr hs
        have hrow := hO.row
        clear hq EL TU BX hdr
        go_wp2_with (first | (at_builtin; refine wpList_bind rfl _ _ rfl wb.heap.size l _ rfl hrow z uo u.length uc rfl hsz (by omega) ?_; intro g gcap w5 hr5 hk5 _))
        have hO5 := hO.more tu hr5 hk5
        have hs5 : Same0 wb w5 := hs.trans hk5 (fun k hk e => by have := (hO.row.lt k e).1; omega)
        obtain ⟨ro, rc, hv, hBA⟩ := hO5.at'
        have HL : Hid (l.length = done.length) := hO.len
        go_ret
        refine ⟨ro, rc, ?_, ?_, kb.trans' hs5⟩
        · rw [HQ.out, ← hv]; rfl
        · rw [HQ.out]; exact hBA
end Go.Proofs.Ytbcchplcppogoaa
