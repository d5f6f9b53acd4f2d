import Derived.Test.YthhcnllabhfejaaGUnifyOverlaps07
import Derived.Test.YthhcnllabhfejaaGUnifyOverlaps16
import Derived.Test.YthhcnllabhfejaaGUnifyOverlaps13
/- The walk of the document's into: a bind among some, by rising variables. -/
namespace Go.Proofs.Ythhcnllabhfejaa
set_option maxRecDepth 100000
set_option linter.unusedVariables false
open Go.RowKit
attribute [local go_sem ↓] Go.wp_at_zero Go.wp_at_succ
/-- A term that is told by its slice, in blocks below n. -/
def TmAt (n : Nat) (w : World) (v : Value) (xs : List Int) : Prop := ∃ ao cap, v = .slice ao xs.length cap ∧ IntsAt w ao xs ∧ xs.length ≤ cap ∧ (ao = none → xs.length = 0 ∧ cap = 0) ∧ ∀ a, ao = some a → xs = [] ∨ a.block < n
theorem TmAt.kept {n : Nat} {w w' : World} {v : Value} {xs : List Int} {S : Nat → Prop} (h : TmAt n w v xs) (hk : Kept S w w') (hs : ∀ k, k < n → ¬ S k) : TmAt n w' v xs := by
  obtain ⟨ao, cap, h1, h2, h3, h4, h5⟩ := h
  refine ⟨ao, cap, h1, ?_, h3, h4, h5⟩
  rcases h2 with e | ⟨b, off, e, hlt, hc⟩
  · exact .inl e
  · rcases h5 _ e with q | q
    · exact .inl q
    · exact IntsAt.kept (.inr ⟨b, off, e, hlt, hc⟩) hk (fun a ea => by rw [e] at ea; cases ea; exact hs _ q)
/-- Binds of the call's own row, their terms in older blocks. -/
structure OutB (base : Nat) (w : World) (v : Value) (l : List (Int × Value)) (bs : List Bd) : Prop where
  row : w.ownsRow base 68 2 v l.length (bcells l)
  len : l.length = bs.length
  each : ∀ i (h : i < l.length) (h' : i < bs.length), l[i].1 = bs[i].1 ∧ TmAt base w l[i].2 bs[i].2
theorem OutB.nil (base : Nat) (w : World) : OutB base w (.slice none 0 0) [] [] := ⟨World.ownsRow_nil _ _ _ _, rfl, fun i h => by simp at h⟩
theorem OutB.more {base : Nat} {wr w2 : World} {lv tv : Value} {l : List (Int × Value)} {bs : List Bd} {n : Int} {xs : List Int} {g cap : Nat} (h : OutB base wr lv l bs) (ht : TmAt base wr tv xs)
    (hr : w2.ownsRow base 68 2 (.slice (some ⟨g, 0, none⟩) (l.length + 1) cap) (l.length + 1) (bcells l ++ [.int .i64 n, tv])) (k2 : Kept (fun k => lv.ownBlock = some k) wr w2) :
    OutB base w2 (.slice (some ⟨g, 0, none⟩) (l.length + 1) cap) (l ++ [(n, tv)]) (bs ++ [(n, xs)]) := by
  have hl := h.len
  have lo : ∀ k, k < base → ¬ lv.ownBlock = some k := fun k hk e => by have := (h.row.lt k e).1; omega
  refine ⟨?_, by simp [hl], fun i h1 h2 => ?_⟩
  · rw [bcells_snoc, List.length_append]; exact hr
  · by_cases hi : i < l.length
    · have hi' : i < bs.length := by omega
      obtain ⟨e1, e2⟩ := h.each i hi hi'
      rw [List.getElem_append_left hi, List.getElem_append_left hi']
      exact ⟨e1, e2.kept k2 lo⟩
    · have hi2 : i = l.length := by simp at h1; omega
      subst hi2
      have e1 : (l ++ [(n, tv)])[l.length] = (n, tv) := by simp
      have e2 : (bs ++ [(n, xs)])[l.length] = (n, xs) := by simp [hl]
      rw [e1, e2]
      exact ⟨rfl, ht.kept k2 lo⟩
theorem OutB.same {base : Nat} {w w' : World} {v : Value} {l : List (Int × Value)} {bs : List Bd} (h : OutB base w v l bs) (hk : Same0 w w') : OutB base w' v l bs :=
  ⟨hk.row h.row (fun _ _ f => f), h.len, fun i h1 h2 => ⟨(h.each i h1 h2).1, (h.each i h1 h2).2.kept hk (fun _ _ f => f)⟩⟩
theorem OutB.at' {base : Nat} {w : World} {v : Value} {l : List (Int × Value)} {bs : List Bd} (h : OutB base w v l bs) : ∃ lo cap, v = .slice lo bs.length cap ∧ BindsAt w lo bs := by
  have hl := h.len
  rcases h.row.2 with ⟨rfl, h0⟩ | ⟨g, cap, cur, rfl, hb, hg, h1, h2, h3, h4⟩
  · have : bs = [] := List.eq_nil_of_length_eq_zero (by omega)
    subst this
    exact ⟨none, 0, rfl, .inl rfl⟩
  · refine ⟨some ⟨g, 0, none⟩, cap, by rw [hl], .inr ⟨g, 0, rfl, lt_of_at hg, fun i hi => ?_⟩⟩
    have hi' : i < l.length := by omega
    obtain ⟨e1, ao, c, y1, y2, y3, y4, _⟩ := h.each i hi' hi
    obtain ⟨x1, x2⟩ := bcells_at hi'
    rw [Nat.zero_add]
    exact ⟨(h.row.cellAt (i * 2) (by omega)).trans (by rw [x1, e1]), ao, c, (h.row.cellAt (i * 2 + 1) (by omega)).trans (by rw [x2, y1]), y2, y3, y4⟩
theorem into_done {bs done : List Bd} {b : Bd} {i : Nat} (hi : i < bs.length) :
    (done ++ intoL (bs.drop i) b = if b.1 < bs[i].1 then done ++ [b] ++ [bs[i]] ++ bs.drop (i + 1) else done ++ [bs[i]] ++ intoL (bs.drop (i + 1)) b) ∧ (done ++ bs.drop i = done ++ [bs[i]] ++ bs.drop (i + 1)) := by
  rw [List.drop_eq_getElem_cons hi, intoL]
  constructor
  · split <;> simp
  · simp
set_option maxHeartbeats 8000000 in
theorem into_any {w : World} {lo uo : Option Addr} {lcap uc : Nat} {bs : List Bd} (hl : BindsAt w lo bs) (hlen : bs.length ≤ 1000) (z : Int) {u : List Int} (hu : IntsAt w uo u) (huc : u.length ≤ uc) (hun : uo = none → u.length = 0 ∧ uc = 0) :
    Calls Try.prog 30 #[.slice lo bs.length lcap, .agg #[.int .i64 z, .slice uo u.length uc]] w fun e w' => ∃ ro rc, e = .returned (.slice ro (intoL bs (z, u)).length rc) ∧ BindsAt w' ro (intoL bs (z, u)) ∧ Same0 w w' := by
  obtain ⟨wb, hwb⟩ : ∃ wb, wb = w.alloc (.cells #[.int .i64 z, .slice uo u.length uc] 68) := ⟨_, rfl⟩
  have kb : Same0 w wb := by rw [hwb]; exact (Kept.refl _ w).alloc _
  have hbox : wb.heap[w.heap.size]? = some (.cells #[.int .i64 z, .slice uo u.length uc] 68 (0, 0)) := by rw [hwb]; exact heap_alloc_new w _
  have zb := kb.size
  have TU : Hid (∀ w', Same0 wb w' → TmAt wb.heap.size w' (.slice uo u.length uc) u) := fun w' hk => by
    refine ⟨uo, uc, rfl, hu.same (kb.trans' hk), huc, hun, fun a e => ?_⟩
    rcases hu with q | ⟨b, off, e', hlt, _⟩
    · exact .inl q
    · rw [e] at e'; cases e'; exact .inr (Nat.lt_of_lt_of_le hlt zb)
  have BX : Hid (∀ w', Same0 wb w' → w'.cell? ⟨w.heap.size, 0, none⟩ = some (.int .i64 z) ∧ w'.cell? ⟨w.heap.size, 1, none⟩ = some (.slice uo u.length uc)) := fun w' hk => ⟨cellAt (hk.at0 hbox) 0, cellAt (hk.at0 hbox) 1⟩
  have EL : Hid (∀ w' i (h : i < bs.length), Same0 wb w' → ∃ lb off ao cap, lo = some ⟨lb, off, none⟩ ∧ lb < wb.heap.size ∧ w'.cell? ⟨lb, off + i * 2, none⟩ = some (.int .i64 bs[i].1) ∧ w'.cell? ⟨lb, off + i * 2 + 1, none⟩ = some (.slice ao bs[i].2.length cap) ∧ TmAt wb.heap.size w' (.slice ao bs[i].2.length cap) bs[i].2) := fun w' i h hk => by
    obtain ⟨lb, off, ao, cap, rfl, hlb, c1, c2, c3, c4, c5⟩ := hl.get h
    have KK := kb.trans' hk
    refine ⟨lb, off, ao, cap, rfl, Nat.lt_of_lt_of_le hlb zb, (KK.cell (p := ⟨lb, off + i * 2, none⟩) hlb (fun f => f)).trans c1, (KK.cell (p := ⟨lb, off + i * 2 + 1, none⟩) hlb (fun f => f)).trans c2, ao, cap, rfl, c3.same KK, c4, c5, fun a e => ?_⟩
    rcases c3 with q | ⟨b, off', e', hlt, _⟩
    · exact .inl q
    · rw [e] at e'; cases e'; exact .inr (Nat.lt_of_lt_of_le hlt zb)
  clear hbox hl hu huc hun
  go_enter Try.func30, Try.ntmps30
  go_wp2
  rw [← hwb]
  clear hwb
  generalize hN : w.heap.size = N at *
  go_loopw [5, 6, 7] (fun ov pv iv wr => ∃ (i : Nat) (put : Bool) (l : List (Int × Value)) (done : List Bd), i ≤ bs.length ∧ iv = .int .i64 (i : Int) ∧ pv = .bool put ∧ OutB wb.heap.size wr ov l done ∧ l.length ≤ i + put.toNat ∧ Hid (intoL bs (z, u) = done ++ (if put then bs.drop i else intoL (bs.drop i) (z, u))) ∧ Same0 wb wr) (fun _ _ iv _ => bs.length - (intOf iv).toNat)
  case atStart => exact ⟨0, false, [], [], Nat.zero_le _, rfl, rfl, OutB.nil _ _, by simp, rfl, Kept.refl _ _⟩
  case round =>
    obtain ⟨i, put, l, done, hi, rfl, rfl, hO, hll, hq, hs⟩ := hrel
    obtain ⟨oo, oc, rfl⟩ := row_shape hO.row
    have hsz := hs.size
    by_cases hlt : i < bs.length
    · obtain ⟨lb, off, ao, cap, rfl, hlb, c1, c2, tm⟩ := EL.out wr i hlt hs
      obtain ⟨x1, x2⟩ := BX.out wr hs
      obtain ⟨q1, q2⟩ := into_done (done := done) (b := (z, u)) hlt
      have i1 : (0 : Int) ≤ (i : Int) := by omega
      have i2 : (i : Int) < (bs.length : Int) := by omega
      obtain ⟨x, hx⟩ : ∃ x, x = bs[i].1 := ⟨_, rfl⟩
      obtain ⟨y, hy⟩ : ∃ y, y = bs[i].2 := ⟨_, rfl⟩
      have hp : bs[i] = (x, y) := by rw [hx, hy]
      rw [hp] at q1 q2
      rw [← hx] at c1
      rw [← hy] at c2 tm
      clear hx hy hp
      have d1 : wr.drew.cell? ⟨lb, off + i * 2, none⟩ = some (.int .i64 x) := c1
      have d3 : wr.drew.cell? ⟨N, 0, none⟩ = some (.int .i64 z) := x1
      have STEP : Hid (∀ (w' w5 : World) (g gcap : Nat), Same0 wr w' → w5.ownsRow wb.heap.size 68 2 (.slice (some ⟨g, 0, none⟩) (l.length + 1) gcap) (l.length + 1) (bcells l ++ [.int .i64 x, .slice ao y.length cap]) → Kept (fun k => Value.ownBlock (.slice oo l.length oc) = some k) w' w5 → OutB wb.heap.size w5 (.slice (some ⟨g, 0, none⟩) (l.length + 1) gcap) (l ++ [(x, .slice ao y.length cap)]) (done ++ [(x, y)]) ∧ Same0 wb w5) := fun w' w5 g gcap kd hr5 hk5 =>
        ⟨(hO.same kd).more (tm.kept kd (fun _ _ f => f)) hr5 hk5, (hs.trans' kd).trans hk5 (fun k hk e => by have := (hO.row.lt k e).1; omega)⟩
      have ROW : Hid (∀ w', Same0 wr w' → w'.ownsRow wb.heap.size 68 2 (.slice oo l.length oc) l.length (bcells l) ∧ wb.heap.size ≤ w'.heap.size) := fun w' kd => ⟨(hO.same kd).row, Nat.le_trans hsz kd.size⟩
      have hll2 : l.length ≤ 2000 := by have := Bool.toNat_le put; omega
      cases put with
      | true =>
        have HQ : Hid (intoL bs (z, u) = (done ++ [(x, y)]) ++ (if true = true then bs.drop (i + 1) else intoL (bs.drop (i + 1)) (z, u))) := by
          have := hq.out
          simp only [if_true] at this ⊢
          show _ = _
          rw [this, q2]
        clear hq q1 q2 hO tm EL TU BX
        go_wp2
        go_quiet (fail)
        have kd : Same0 wr (wr.drewN nq) := (Kept.refl _ wr).drewN nq
        obtain ⟨hrow, hsz2⟩ := ROW.out _ kd
        go_wp2_with (first | (at_builtin; refine wpList_bind rfl _ _ rfl wb.heap.size l _ rfl hrow x ao y.length cap rfl hsz2 (by omega) ?_; intro g gcap w5 hr5 hk5 _))
        obtain ⟨hO5, hs5⟩ := STEP.out _ w5 g gcap kd hr5 hk5
        have hl5 : (l ++ [(x, Value.slice ao y.length cap)]).length ≤ i + 1 + true.toNat := by simp at hll ⊢; omega
        go_roundw
        case rel => first | exact ⟨i + 1, true, _, _, by omega, by go_num, rfl, hO5, hl5, HQ, hs5⟩ | ((repeat apply Exists.intro); exact ⟨⟨i + 1, true, _, _, by omega, by go_num, rfl, hO5, hl5, HQ, hs5⟩, rfl⟩)
        case measure => simp [intOf]; omega
      | false =>
        by_cases hzx : z < x
        · have HQ : Hid (intoL bs (z, u) = (done ++ [(z, u)] ++ [(x, y)]) ++ (if true = true then bs.drop (i + 1) else intoL (bs.drop (i + 1)) (z, u))) := by
            have := hq.out
            simp only [Bool.false_eq_true, if_false, if_true] at this ⊢
            show _ = _
            rw [this, q1, if_pos hzx]
          have hzd : decide (z < x) = true := by simpa using hzx
          have tu := TU.out wr hs
          have ST1 : Hid (∀ (w' w5 : World) (g gcap : Nat), Same0 wr w' → w5.ownsRow wb.heap.size 68 2 (.slice (some ⟨g, 0, none⟩) (l.length + 1) gcap) (l.length + 1) (bcells l ++ [.int .i64 z, .slice uo u.length uc]) → Kept (fun k => Value.ownBlock (.slice oo l.length oc) = some k) w' w5 → OutB wb.heap.size w5 (.slice (some ⟨g, 0, none⟩) (l.length + 1) gcap) (l ++ [(z, .slice uo u.length uc)]) (done ++ [(z, u)]) ∧ Same0 wb w5) := fun w' w5 g gcap kd hr5 hk5 =>
            ⟨(hO.same kd).more (tu.kept kd (fun _ _ f => f)) hr5 hk5, (hs.trans' kd).trans hk5 (fun k hk e => by have := (hO.row.lt k e).1; omega)⟩
          have C5 : Hid (∀ (w' w5 : World), Same0 wr w' → Kept (fun k => Value.ownBlock (.slice oo l.length oc) = some k) w' w5 → w5.cell? ⟨lb, off + i * 2, none⟩ = some (.int .i64 x) ∧ w5.cell? ⟨lb, off + i * 2 + 1, none⟩ = some (.slice ao y.length cap) ∧ TmAt wb.heap.size w5 (.slice ao y.length cap) y) := fun w' w5 kd hk5 => by
            have kk : Kept (fun k => Value.ownBlock (.slice oo l.length oc) = some k) wr w5 := (kd.mono (fun _ _ f => f.elim)).trans hk5 (fun _ _ e => e)
            have hno : ∀ k, k < wb.heap.size → ¬ Value.ownBlock (.slice oo l.length oc) = some k := fun k hk e => by have := (hO.row.lt k e).1; omega
            exact ⟨(kk.cell (p := ⟨lb, off + i * 2, none⟩) (Nat.lt_of_lt_of_le hlb hsz) (hno lb hlb)).trans c1, (kk.cell (p := ⟨lb, off + i * 2 + 1, none⟩) (Nat.lt_of_lt_of_le hlb hsz) (hno lb hlb)).trans c2, tm.kept kk hno⟩
          clear hq q1 q2 hO tm EL TU BX STEP tu
          go_wp2
          go_quiet (fail)
          have kd : Same0 wr (wr.drewN nq) := (Kept.refl _ wr).drewN nq
          obtain ⟨hrow, hsz2⟩ := ROW.out _ kd
          go_wp2_with (first
            | (at_builtin; refine wpList_bind rfl _ _ rfl wb.heap.size l _ rfl hrow z uo u.length uc rfl hsz2 (by omega) ?_; intro g gcap w5 hr5 hk5 _; obtain ⟨hO5, hs5⟩ := ST1.out _ w5 g gcap kd hr5 hk5; obtain ⟨y1, y2, y3⟩ := C5.out _ w5 kd hk5; have hrow5 : w5.ownsRow wb.heap.size 68 2 (.slice (some ⟨g, 0, none⟩) (l.length + 1) gcap) (l ++ [(z, Value.slice uo u.length uc)]).length (bcells (l ++ [(z, Value.slice uo u.length uc)])) := (by have := hO5.row; exact this))
            | (at_builtin; refine wpList_bind rfl _ _ rfl wb.heap.size (l ++ [(z, Value.slice uo u.length uc)]) _ rfl hrow5 x ao y.length cap rfl hs5.size (by simp; omega) ?_; intro g6 gcap6 w6 hr6 hk6 _))
          have hO6 := hO5.more y3 (by have e : (l ++ [(z, Value.slice uo u.length uc)]).length + 1 = (l ++ [(z, Value.slice uo u.length uc)]).length + 1 := rfl; exact hr6) hk6
          have e6 : (l ++ [(z, Value.slice uo u.length uc)]).length + 1 = l.length + 1 + 1 := by simp
          rw [e6] at hO6
          have hs6 : Same0 wb w6 := hs5.trans hk6 (fun k hk e => by have := (hO5.row.lt k e).1; omega)
          have hl6 : (l ++ [(z, Value.slice uo u.length uc)] ++ [(x, Value.slice ao y.length cap)]).length ≤ i + 1 + true.toNat := by simp at hll ⊢; omega
          go_roundw
          case rel => first | exact ⟨i + 1, true, _, _, by omega, by go_num, rfl, hO6, hl6, HQ, hs6⟩ | ((repeat apply Exists.intro); exact ⟨⟨i + 1, true, _, _, by omega, by go_num, rfl, hO6, hl6, HQ, hs6⟩, rfl⟩)
          case measure => simp [intOf]; omega
        · have HQ : Hid (intoL bs (z, u) = (done ++ [(x, y)]) ++ (if false = true then bs.drop (i + 1) else intoL (bs.drop (i + 1)) (z, u))) := by
            have := hq.out
            simp only [Bool.false_eq_true, if_false] at this ⊢
            show _ = _
            rw [this, q1, if_neg hzx]
          have hzd : decide (z < x) = false := by simpa using hzx
          clear hq q1 q2 hO tm EL TU BX
          go_wp2
          go_quiet (fail)
          have kd : Same0 wr (wr.drewN nq) := (Kept.refl _ wr).drewN nq
          obtain ⟨hrow, hsz2⟩ := ROW.out _ kd
          go_wp2_with (first | (at_builtin; refine wpList_bind rfl _ _ rfl wb.heap.size l _ rfl hrow x ao y.length cap rfl hsz2 (by omega) ?_; intro g gcap w5 hr5 hk5 _))
          obtain ⟨hO5, hs5⟩ := STEP.out _ w5 g gcap kd hr5 hk5
          have hl5 : (l ++ [(x, Value.slice ao y.length cap)]).length ≤ i + 1 + false.toNat := by simp at hll ⊢; omega
          go_roundw
          case rel => first | exact ⟨i + 1, false, _, _, by omega, by go_num, rfl, hO5, hl5, HQ, hs5⟩ | ((repeat apply Exists.intro); exact ⟨⟨i + 1, false, _, _, by omega, by go_num, rfl, hO5, hl5, HQ, hs5⟩, rfl⟩)
          case measure => simp [intOf]; omega
    · have hdr : bs.drop i = [] := List.drop_eq_nil_of_le (by omega)
      have hll2 : l.length ≤ 2000 := by have := Bool.toNat_le put; omega
      cases put with
      | true =>
        have HQ : Hid (intoL bs (z, u) = done) := by
          have := hq.out
          rw [hdr] at this
          simpa [Hid] using this
        obtain ⟨ro, rc, hv, hBA⟩ := hO.at'
        have HV : Hid (Value.slice oo l.length oc = .slice ro done.length rc) := hv
        clear hq hO EL TU BX hdr hv
        go_wp2
        go_ret
        refine ⟨ro, rc, ?_, ?_, kb.trans' hs⟩
        · rw [HQ.out, ← HV.out]; rfl
        · rw [HQ.out]; exact hBA
      | false =>
        have HQ : Hid (intoL bs (z, u) = done ++ [(z, u)]) := by
          have := hq.out
          rw [hdr] at this
          simpa [Hid, intoL] using this
        obtain ⟨x1, x2⟩ := BX.out wr hs
        have tu := TU.out wr hs
        have hrow := hO.row
        clear hq EL TU BX hdr
        go_wp2_with (first | (at_builtin; refine wpList_bind rfl _ _ rfl wb.heap.size l _ rfl hrow z uo u.length uc rfl hsz (by omega) ?_; intro g gcap w5 hr5 hk5 _))
        have hO5 := hO.more tu hr5 hk5
        have hs5 : Same0 wb w5 := hs.trans hk5 (fun k hk e => by have := (hO.row.lt k e).1; omega)
        obtain ⟨ro, rc, hv, hBA⟩ := hO5.at'
        have HL : Hid (l.length = done.length) := hO.len
        go_ret
        refine ⟨ro, rc, ?_, ?_, kb.trans' hs5⟩
        · rw [HQ.out, ← hv]; rfl
        · rw [HQ.out]; exact hBA
end Go.Proofs.Ythhcnllabhfejaa
/- The walk of the document's Match. -/
namespace Go.Proofs.Ythhcnllabhfejaa
set_option maxRecDepth 100000
set_option linter.unusedVariables false
open Go.RowKit
attribute [local go_sem ↓] Go.wp_at_zero Go.wp_at_succ
def outOf (r : Option Tb) : List Bd := match r with | some σ => blN σ 100 | none => []
/-- At the head of a round: i of the pattern and j of the subterm at q are passed. -/
structure RM (w wr : World) (L : List Sym) (p su : List Int) (i j : Nat) (σ : Tb) (lo : Option Addr) : Prop where
  mw : Proofs.Ythhcnllabhfejaa.mw L p su noT = Proofs.Ythhcnllabhfejaa.mw L (p.drop i) (su.drop j) σ
  even : Even L (p.drop i) (su.drop j)
  jle : j ≤ su.length
  bnd : Bnd σ
  out : BindsAt wr lo (blN σ 100)
  kept : Same0 w wr
theorem sub_split {L : List Sym} {t : List Int} (hT : IsT L t) {q : Nat} (hq : q < t.length) {j : Nat} (hj : j ≤ (subN L t q).length) : t.drop (q + j) = (subN L t q).drop j ++ t.drop (endN L t q) := by
  have he := endN_le hT hq
  have hl := sub_length hT hq
  have h1 : t.drop q = subN L t q ++ t.drop (endN L t q) := by
    unfold subN
    rw [List.drop_take]
    have : t.drop (endN L t q) = (t.drop q).drop (endN L t q - q) := by rw [List.drop_drop]; congr 1; omega
    rw [this, List.take_append_drop]
  rw [← List.drop_drop, h1, List.drop_append_of_le_length hj]
theorem sub_at {L : List Sym} {t : List Int} (hT : IsT L t) {q : Nat} (hq : q < t.length) {j m : Nat} (hj : j < (subN L t q).length) (hs : scan L 1 ((subN L t q).drop j) = some m) (hm : m ≤ ((subN L t q).drop j).length) : subN L t (q + j) = headT L ((subN L t q).drop j) := by
  have e := sub_split hT hq (Nat.le_of_lt hj)
  have h1 := head_app (b := t.drop (endN L t q)) hs hm
  rw [← e] at h1
  rw [← h1]
  have he := endN_le hT hq
  have hl := sub_length hT hq
  obtain ⟨n, g1, g2, g3⟩ := isT_scan hT (p := q + j) (by omega)
  rw [subN, endN_of g1, headT, g1, List.drop_take]
  simp
theorem isT_end {L : List Sym} {t : List Int} (hT : IsT L t) {q : Nat} (hq : q < t.length) : endN L t q ≤ t.length := (endN_le hT hq).2
set_option maxHeartbeats 8000000 in
theorem rmatch_at {n : Nat} {w : World} {rv : Value} {L : List Sym} (h : Rl n w rv L) {po ao : Option Addr} {pc tc : Nat} {p t : List Int} (hp : IntsAt w po p) (ht : IntsAt w ao t) (hpc : checkE L p = 0) (t1 : t.length ≤ 2000) (t3 : IsT L t) (hcap : t.length ≤ tc) {q : Nat} (hq : q < t.length) :
    Calls Try.prog 18 #[rv, .slice po p.length pc, .slice ao t.length tc, .int .i64 (q : Int)] w fun e w' => ∃ lo cap, e = .returned (.tuple #[.slice lo (outOf (mw L p (subN L t q) noT)).length cap, .bool (mw L p (subN L t q) noT).isSome]) ∧ BindsAt w' lo (outOf (mw L p (subN L t q) noT)) ∧ Same0 w w' := by
  obtain ⟨p1, p2, p3⟩ := checkE_zero.1 hpc
  have pv : ∀ x ∈ p, -99 ≤ x := fun x hx => ((badE_zero.1 p2) x hx).2
  have hsl := sub_length t3 hq
  have hle := endN_le t3 hq
  have hst := sub_need t3 hq
  obtain ⟨ro, rc, rfl⟩ := row_shape h.1
  have CSUB : Hid (∀ w1 k, Same0 w w1 → k < t.length → Calls Try.prog 28 #[.slice ro L.length rc, .slice ao t.length tc, .int .i64 (k : Int)] w1 fun e w' => ∃ v, e = .returned v ∧ Row w1.heap.size w' v (subN L t k) ∧ Same0 w1 w') := fun w1 k hk hkl => rsub_any (cap := tc) (h.same hk) (ht.same hk) t1 hcap t3 k hkl
  have W0 : RM w w L p (subN L t q) 0 0 noT none := ⟨rfl, even_term p3 hst, Nat.zero_le _, fun v => by simp [noT], .inl (by decide), Kept.refl _ _⟩
  have z0 : (blN noT 100).length = 0 := by decide
  have PV : Hid (∀ x ∈ p, -99 ≤ x) := pv
  have SUB : Hid (∀ j m, j < (subN L t q).length → scan L 1 ((subN L t q).drop j) = some m → m ≤ ((subN L t q).drop j).length → subN L t (q + j) = headT L ((subN L t q).drop j)) := fun j m => sub_at t3 hq
  have TX : Hid (∀ j (hj : j < (subN L t q).length), ∃ h' : q + j < t.length, t[q + j] = (subN L t q)[j]) := fun j hj => by
    have h' : q + j < t.length := by omega
    refine ⟨h', ?_⟩
    have e := sub_split t3 hq (Nat.le_of_lt hj)
    rw [List.drop_eq_getElem_cons h', List.drop_eq_getElem_cons hj] at e
    exact (List.cons.inj e).1
  have hsu : (subN L t q).length ≤ 2000 := by omega
  have hqs : q + (subN L t q).length ≤ t.length := by omega
  generalize hSU : subN L t q = SU at *
  have t1' := t1
  clear hst hle hsl p2 p3 t3 pv hSU h
  go_enter Try.func18, Try.ntmps18
  go_wp2
  go_loopw [10, 11, 12] (fun ov kv iv wr => ∃ (i j : Nat) (σ : Tb) (lo : Option Addr) (cap : Nat), i ≤ p.length ∧ iv = .int .i64 (i : Int) ∧ kv = .int .i64 ((q + j : Nat) : Int) ∧ ov = .slice lo (blN σ 100).length cap ∧ RM w wr L p SU i j σ lo) (fun _ _ iv _ => p.length - (intOf iv).toNat)
  case atStart => exact ⟨0, 0, noT, none, 0, Nat.zero_le _, rfl, rfl, by rw [z0], W0⟩
  case round =>
    clear W0
    obtain ⟨i, j, σ, lo, cap, hi, rfl, rfl, rfl, hR⟩ := hrel
    have hbl := blN_len σ 100
    by_cases hlt : i < p.length
    · obtain ⟨pb, poff, rfl, hpb, hpx⟩ := (hp.same hR.kept).get hlt
      have hd : p.drop i = p[i] :: p.drop (i + 1) := List.drop_eq_getElem_cons hlt
      have hev := hR.even
      rw [hd] at hev
      obtain ⟨x, ts', hx, q1, q2⟩ := hev.cons
      have hjl : j < SU.length := by
        have := congrArg List.length hx
        simp at this; omega
      have hx2 : SU.drop j = SU[j] :: SU.drop (j + 1) := List.drop_eq_getElem_cons hjl
      obtain ⟨hqj, htx⟩ := TX.out j hjl
      obtain ⟨tb, toff, rfl, htb, hty⟩ := (ht.same hR.kept).get hqj
      rw [htx] at hty
      have i1 : (0 : Int) ≤ (i : Int) := by omega
      have i2 : (i : Int) < (p.length : Int) := by omega
      have i3 : (0 : Int) ≤ ((q + j : Nat) : Int) := by omega
      have i4 : ((q + j : Nat) : Int) < (t.length : Int) := by omega
      have hvp := PV.out _ (List.getElem_mem hlt)
      obtain ⟨N, hN⟩ : ∃ N, N = q + j := ⟨_, rfl⟩
      have HNq : Hid (N = q + j) := hN
      rw [← hN] at i3 i4 hty ⊢
      by_cases hn : 0 ≤ p[i]
      · have d1 : wr.drew.cell? ⟨tb, toff + N, none⟩ = some (.int .i64 SU[j]) := hty
        have d2 : wr.drew.cell? ⟨pb, poff + i, none⟩ = some (.int .i64 p[i]) := hpx
        by_cases hq' : SU[j] = p[i]
        · have hR' : Hid (RM w wr L p SU (i + 1) (j + 1) σ lo) := by
            rw [hx2] at hx
            simp only [List.cons.injEq] at hx
            exact ⟨hR.mw.trans (by rw [hd, hx2, mw_sym hn, if_pos hq']), by rw [hx.2]; exact q1 hn (by rw [← hx.1]; exact hq'), by omega, hR.bnd, hR.out, hR.kept⟩
          have hqe : (SU[j] == p[i]) = true := by simpa using hq'
          have hNt : N ≤ 2000 := by omega
          clear hR q1 q2 hx hx2 hd hev hN
          go_wp2
          go_quiet (fail)
          go_wp2
          refine ⟨⟨i + 1, j + 1, σ, lo, cap, by omega, by go_num, ?_, rfl, ?_⟩, by simp [intOf]; omega⟩
          · rw [HNq.out]; congr 1
          · have r := hR'.out
            have kd : Same0 wr (wr.drewN nq) := (Kept.refl _ wr).drewN nq
            exact ⟨r.mw, r.even, r.jle, r.bnd, r.out.same kd, r.kept.trans' kd⟩
        · have HX : Hid (mw L p SU noT = none) := by
            show _ = _
            rw [hR.mw, hd, hx2, mw_sym hn, if_neg hq']
          have hqe : (SU[j] == p[i]) = false := by simpa using hq'
          have hk := hR.kept
          clear hR q1 q2 hx hx2 hd hev hN
          go_wp2
          go_quiet (fail)
          go_wp2
          go_ret2
          refine ⟨none, 0, ?_, ?_, hk.drewN _⟩
          · rw [HX.out]; rfl
          · rw [HX.out]; exact .inl rfl
      · obtain ⟨m, g1, g2, g3, g4, g5, g6⟩ := q2 hn
        obtain ⟨v, hvv⟩ : ∃ v : Nat, v = (-p[i]).toNat := ⟨_, rfl⟩
        have hpi : p[i] = -(v : Int) := by omega
        have hU := SUB.out j m hjl g1 g3
        rw [← hN] at hU
        rw [List.length_drop] at g3
        rw [List.drop_drop] at g6
        obtain ⟨U, hUU⟩ : ∃ U, U = headT L (SU.drop j) := ⟨_, rfl⟩
        rw [← hUU] at hU g5
        have cs := CSUB.out wr N hR.kept (by omega)
        rw [hU] at cs
        have hUne : U ≠ [] := fun e => by rw [e] at g5; simp at g5; omega
        rw [hpi] at hpx
        have PC : Hid (∀ w', Same0 wr w' → w'.cell? ⟨pb, poff + i, none⟩ = some (.int .i64 (-(v : Int)))) := fun w' hk => (hk.cell (p := ⟨pb, poff + i, none⟩) hpb (fun f => f)).trans hpx
        have hbb := bound_bl (σ := σ) (n := 100) (v := v) (by omega)
        have CB : Hid (∀ w', Same0 wr w' → Calls Try.prog 29 #[.slice lo (blN σ 100).length cap, .int .i64 (v : Int)] w' fun e w'' => (∀ u, boundL (blN σ 100) (v : Int) = some u → ∃ ao cap, e = .returned (.tuple #[.slice ao u.length cap, .bool true]) ∧ IntsAt w' ao u ∧ u.length ≤ cap ∧ NilOk ao cap u) ∧ (boundL (blN σ 100) (v : Int) = none → e = .returned (.tuple #[.slice none 0 0, .bool false])) ∧ w'' = w') := fun w' hk => bound_any (lcap := cap) (hR.out.same hk) (by unfold maxLen; omega) (v : Int)
        have i5 : (0 : Int) ≤ (v : Int) := by omega
        have i7 : - -(v : Int) = (v : Int) := by omega
        have i8 : ¬ v = 0 := by omega
        have i6 : (v : Int) < 100 := by omega
        have hU2 : U.length ≤ 2000 := by omega
        have hk0 := hR.kept
        have KN : Hid (((q + (j + m) : Nat) : Int) = (N : Int) + (U.length : Int)) := by show _ = _; rw [hN, g5]; omega
        by_cases hs : σ v = []
        · rw [if_pos hs] at hbb
          have CI : Hid (∀ w' (uo : Option Addr) (uc : Nat), Same0 wr w' → IntsAt w' uo U → U.length ≤ uc → (uo = none → U.length = 0 ∧ uc = 0) → Calls Try.prog 30 #[.slice lo (blN σ 100).length cap, .agg #[.int .i64 (v : Int), .slice uo U.length uc]] w' fun e w'' => ∃ ro rc, e = .returned (.slice ro (blN (updT σ v U) 100).length rc) ∧ RM w w'' L p SU (i + 1) (j + m) (updT σ v U) ro) := fun w' uo uc hk hi1 hi2 hi3 => by
            refine (into_any (lcap := cap) (hR.out.same hk) (by omega) (v : Int) hi1 hi2 hi3).mono ?_
            rintro e w'' ⟨ro, rc, rfl, hBA, hk2⟩
            rw [into_bl (by omega) hs hUne] at hBA ⊢
            refine ⟨ro, rc, rfl, hR.mw.trans ?_, g6, by omega, bnd_upd hR.bnd hU2, hBA, (hk0.trans' hk).trans' hk2⟩
            rw [hd, mw_new hn (by rw [← hvv]; exact hs), ← hUU, g5, List.drop_drop, ← hvv]
          have CB2 : Hid (∀ w', Same0 wr w' → Calls Try.prog 29 #[.slice lo (blN σ 100).length cap, .int .i64 (v : Int)] w' fun e w'' => e = .returned (.tuple #[.slice none 0 0, .bool false]) ∧ w'' = w') := fun w' hk => (CB.out w' hk).mono (fun e w'' ⟨_, q2, q3⟩ => ⟨q2 hbb, q3⟩)
          clear hR q1 q2 hx hx2 hd hev hN CB hbb hs hUU hU g5 g4 g1 g6 hpi hvv hty SUB TX CSUB PV
          generalize hBL2 : blN (updT σ v U) 100 = BL2 at CI
          have HB2 : Hid (blN (updT σ v U) 100 = BL2) := hBL2
          clear hBL2
          generalize blN σ 100 = BL at *
          go_wp2_with (first
            | (go_at_call 28; refine cs.mono ?_; rintro e w2 ⟨uv, rfl, hr2, k2⟩; obtain ⟨uo, uc, rfl, hi2, hc2, hb2⟩ := hr2.ints; have pc2 := PC.out w2 k2; have cb2 := CB2.out w2 k2; have ci2 := CI.out w2 uo uc k2 hi2 hc2 (fun e => (by subst e; rcases hr2.2 with ⟨z1, z2⟩ | ⟨g', c', cur', z1, _⟩ <;> (simp at z1; try omega))))
            | (go_at_call 29; refine cb2.mono ?_; rintro e w' ⟨rfl, rfl⟩)
            | (go_at_call 30; refine ci2.mono ?_; rintro e w4 ⟨ro4, rc4, rfl, hR4⟩))
          refine ⟨⟨i + 1, j + m, updT σ v U, ro4, rc4, by omega, by go_num, by rw [KN.out], by rw [HB2.out], hR4⟩, by simp [intOf]; omega⟩
        · rw [if_neg hs] at hbb
          have CB2 : Hid (∀ w', Same0 wr w' → Calls Try.prog 29 #[.slice lo (blN σ 100).length cap, .int .i64 (v : Int)] w' fun e w'' => ∃ ao cap, e = .returned (.tuple #[.slice ao (σ v).length cap, .bool true]) ∧ IntsAt w' ao (σ v) ∧ w'' = w') := fun w' hk => (CB.out w' hk).mono (fun e w'' ⟨q1, _, q3⟩ => by obtain ⟨ao, cap, y1, y2, _⟩ := q1 _ hbb; exact ⟨ao, cap, y1, y2, q3⟩)
          have hsl2 := hR.bnd v
          by_cases he : σ v = U
          · have hR' : Hid (∀ w', Same0 wr w' → RM w w' L p SU (i + 1) (j + m) σ lo) := fun w' hk => by
              refine ⟨hR.mw.trans ?_, g6, by omega, hR.bnd, hR.out.same hk, hk0.trans' hk⟩
              rw [hd, mw_old hn (by rw [← hvv]; exact hs), ← hUU, g5, List.drop_drop, ← hvv, if_pos he]
            rw [he] at CB2
            have CS : Hid (∀ w' (ao bo : Option Addr) (ac bc : Nat), IntsAt w' ao U → IntsAt w' bo U → Calls Try.prog 13 #[.slice ao U.length ac, .slice bo U.length bc] w' fun e w'' => e = .returned (.bool true) ∧ Same0 w' w'') := fun w' ao bo ac bc y1 y2 => by
              refine (same_any (acap := ac) (bcap := bc) y1 y2 (by unfold maxLen; omega)).mono ?_
              rintro e w'' ⟨rfl, y3⟩
              exact ⟨by simp [sameB], y3⟩
            clear hR q1 q2 hx hx2 hd hev hN CB hbb hs hUU hU g5 g4 g1 g6 hpi hvv hty he
            go_wp2_with (first
              | (go_at_call 28; refine cs.mono ?_; rintro e w2 ⟨uv, rfl, hr2, k2⟩; obtain ⟨uo, uc, rfl, hi2, hc2, hb2⟩ := hr2.ints; have pc2 := PC.out w2 k2; have cb2 := CB2.out w2 k2)
              | (go_at_call 29; refine cb2.mono ?_; rintro e w' ⟨oo, oc, rfl, hio, rfl⟩; have csm := CS.out _ oo uo oc uc hio hi2)
              | (go_at_call 13; refine csm.mono ?_; rintro e w4 ⟨rfl, k4⟩))
            refine ⟨⟨i + 1, j + m, σ, lo, cap, by omega, by go_num, ?_, rfl, hR'.out _ (k2.trans' k4)⟩, by simp [intOf]; omega⟩
            rw [KN.out]
          · have HX : Hid (mw L p SU noT = none) := by
              show _ = _
              rw [hR.mw, hd, mw_old hn (by rw [← hvv]; exact hs), ← hUU, ← hvv, if_neg he]
            have CS : Hid (∀ w' (ao bo : Option Addr) (ac bc : Nat), IntsAt w' ao (σ v) → IntsAt w' bo U → Calls Try.prog 13 #[.slice ao (σ v).length ac, .slice bo U.length bc] w' fun e w'' => e = .returned (.bool false) ∧ Same0 w' w'') := fun w' ao bo ac bc y1 y2 => by
              refine (same_any (acap := ac) (bcap := bc) y1 y2 (by unfold maxLen; omega)).mono ?_
              rintro e w'' ⟨rfl, y3⟩
              exact ⟨by simp [sameB, he], y3⟩
            clear hR q1 q2 hx hx2 hd hev hN CB hbb hs hUU hU g5 g4 g1 g6 hpi hvv hty he
            go_wp2_with (first
              | (go_at_call 28; refine cs.mono ?_; rintro e w2 ⟨uv, rfl, hr2, k2⟩; obtain ⟨uo, uc, rfl, hi2, hc2, hb2⟩ := hr2.ints; have pc2 := PC.out w2 k2; have cb2 := CB2.out w2 k2)
              | (go_at_call 29; refine cb2.mono ?_; rintro e w' ⟨oo, oc, rfl, hio, rfl⟩; have csm := CS.out _ oo uo oc uc hio hi2)
              | (go_at_call 13; refine csm.mono ?_; rintro e w4 ⟨rfl, k4⟩))
            go_ret2
            refine ⟨none, 0, ?_, ?_, (hk0.trans' k2).trans' k4⟩
            · rw [HX.out]; rfl
            · rw [HX.out]; exact .inl rfl
    · have hn : p.drop i = [] := List.drop_eq_nil_of_le (by omega)
      have HX : Hid (mw L p SU noT = some σ) := by
        have := hR.mw
        rw [hn] at this
        exact this.trans rfl
      have hk := hR.kept
      have ho := hR.out
      clear hR hn
      go_wp2
      go_ret2
      refine ⟨lo, cap, ?_, ?_, hk⟩
      · rw [HX.out]; rfl
      · rw [HX.out]; exact ho
theorem rmatch_any {n : Nat} {w : World} {rv : Value} {L : List Sym} (h : Rl n w rv L) {po ao : Option Addr} {pc tc : Nat} {p t : List Int} (hp : IntsAt w po p) (ht : IntsAt w ao t) (hpc : checkE L p = 0) (htc : checkE L t = 0) (hcap : t.length ≤ tc) {q : Nat} (hq : q < t.length) :
    Calls Try.prog 18 #[rv, .slice po p.length pc, .slice ao t.length tc, .int .i64 (q : Int)] w fun e w' => ∃ lo cap, e = .returned (.tuple #[.slice lo (outOf (mw L p (subN L t q) noT)).length cap, .bool (mw L p (subN L t q) noT).isSome]) ∧ BindsAt w' lo (outOf (mw L p (subN L t q) noT)) ∧ Same0 w w' := rmatch_at h hp ht hpc (checkE_zero.1 htc).1 (checkE_zero.1 htc).2.2 hcap hq
end Go.Proofs.Ythhcnllabhfejaa
/- The walk of the statement UnifyInstance. -/
namespace Go.Proofs.Ythhcnllabhfejaa
set_option maxRecDepth 100000
set_option linter.unusedVariables false
open Go.RowKit
attribute [local go_sem ↓] Go.wp_at_zero Go.wp_at_succ
theorem sub_whole {L : List Sym} {t : List Int} (h : IsT L t) : subN L t 0 = t := by
  unfold subN; rw [endN_zero h]; simp
/-- The document's Match of a whole term. -/
theorem rmatch_whole {n : Nat} {w : World} {rv : Value} {L : List Sym} (h : Rl n w rv L) {po ao : Option Addr} {pc tc : Nat} {p t : List Int} (hp : IntsAt w po p) (ht : IntsAt w ao t) (hpc : checkE L p = 0) (t1 : t.length ≤ 2000) (t3 : IsT L t) (hcap : t.length ≤ tc) :
    Calls Try.prog 18 #[rv, .slice po p.length pc, .slice ao t.length tc, .int .i64 0] w fun e w' => (∃ v, e = .returned (.tuple #[v, .bool (mw L p t noT).isSome])) ∧ Same0 w w' := by
  have c := rmatch_at (pc := pc) h hp ht hpc t1 t3 hcap (q := 0) (isT_pos t3)
  rw [sub_whole t3] at c
  refine c.mono ?_
  rintro e w' ⟨lo, cap, rfl, _, hk⟩
  exact ⟨⟨_, rfl⟩, hk⟩
set_option maxHeartbeats 8000000 in
theorem uinst_walk (v : Value) (w : World) {lo : Option Addr} {ll lc : Nat} {ls : List Sym} {ao : Option Addr} {ac : Nat} {a : List Int} {bo : Option Addr} {bc : Nat} {b' : List Int} {so : Option Addr} {tc : Nat} {t : List Int} (hc : Case6Is w v lo ll lc ls ao ac a bo bc b' so tc t) :
    Calls Try.prog 6 #[v] w fun e w' => e = .returned (.bool true) ∧ Below w.heap.size w w' := by
  obtain ⟨rfl, hsy, hsl, ha, hb, ht⟩ := hc
  obtain ⟨wb, hwb⟩ : ∃ wb, wb = w.alloc (.cells #[.slice lo ll lc, .slice ao a.length ac, .slice bo b'.length bc, .slice so t.length tc] 27) := ⟨_, rfl⟩
  have kb : Same0 w wb := by rw [hwb]; exact (Kept.refl _ w).alloc _
  have hbox : wb.heap[w.heap.size]? = some (.cells #[.slice lo ll lc, .slice ao a.length ac, .slice bo b'.length bc, .slice so t.length tc] 27 (0, 0)) := by rw [hwb]; exact heap_alloc_new w _
  go_enter Try.func6, Try.ntmps6
  go_wp2_with fail
  rw [← hwb]
  generalize hcb : w.heap.size = cb at *
  clear hwb
  refine (awake6_any _).mono ?_
  rintro e w1 ⟨rfl, k1⟩
  obtain ⟨d0, _, _, _⟩ := case6_cells hbox k1
  go_wp2_with fail
  refine (made_any lo ll lc ls w1 (hsy.kept (kb.trans' k1).below) hsl).mono ?_
  rintro e w2 ⟨b, rv, rfl, hsg, hrl, k2⟩
  obtain ⟨L0, hL0⟩ : ∃ L0, L0 = madeL ls := ⟨_, rfl⟩
  rw [← hL0] at hsg hrl
  clear hL0 d0
  have K2 := k1.trans' k2
  have KW := kb.trans' K2
  obtain ⟨ro, rc, rfl⟩ := row_shape hrl.1
  have CC : Hid (∀ w3, Same0 w2 w3 → w3.cell? ⟨cb, 1, none⟩ = some (.slice ao a.length ac) ∧ w3.cell? ⟨cb, 2, none⟩ = some (.slice bo b'.length bc)) := fun w3 hk => ⟨(case6_cells hbox (K2.trans' hk)).2.1, (case6_cells hbox (K2.trans' hk)).2.2.1⟩
  have CO1 : Hid (∀ w3, Same0 w2 w3 → Calls Try.prog 14 #[.pointer (some ⟨b, 0, none⟩), .slice ao a.length ac, .slice bo b'.length bc] w3 fun e w' => ∃ to' tc', e = .returned (.tuple #[.slice to' (comT L0 a b' 99).length tc', .int .i64 (comE L0 a b' 99)]) ∧ IntsAt w' to' (comT L0 a b' 99) ∧ (comT L0 a b' 99).length ≤ tc' ∧ (to' = none → (comT L0 a b' 99).length = 0 ∧ tc' = 0) ∧ Same0 w3 w') := by
    intro w3 hk
    refine (overlap_any (xc := ac) (yc := bc) (sg_up (hsg.same hk) hk.size) (ha.at'.same (KW.trans' hk)) (hb.at'.same (KW.trans' hk)) (umaxLen ha.size) (umaxLen hb.size)).mono ?_
    rintro e w' ⟨v, rfl, hr, hk'⟩
    have hr' := hr
    obtain ⟨to', tc', rfl, hi, hcap, _⟩ := hr.ints
    refine ⟨to', tc', rfl, hi, hcap, fun e => ?_, hk'⟩
    subst e
    rcases hr'.2 with ⟨q, q2⟩ | ⟨g, cap, cur, q, _⟩
    · simp only [Value.slice.injEq] at q; exact ⟨q.2.1, q.2.2⟩
    · cases q
  have CO2 : Hid (∀ w3, Same0 w2 w3 → Calls Try.prog 14 #[.pointer (some ⟨b, 0, none⟩), .slice bo b'.length bc, .slice ao a.length ac] w3 fun e w' => ∃ to' tc', e = .returned (.tuple #[.slice to' (comT L0 b' a 99).length tc', .int .i64 (comE L0 b' a 99)]) ∧ IntsAt w' to' (comT L0 b' a 99) ∧ Same0 w3 w') := by
    intro w3 hk
    refine (overlap_any (xc := bc) (yc := ac) (sg_up (hsg.same hk) hk.size) (hb.at'.same (KW.trans' hk)) (ha.at'.same (KW.trans' hk)) (umaxLen hb.size) (umaxLen ha.size)).mono ?_
    rintro e w' ⟨v, rfl, hr, hk'⟩
    obtain ⟨to', tc', rfl, hi, hcap, _⟩ := hr.ints
    exact ⟨to', tc', rfl, hi, hk'⟩
  have FIN : Hid (∀ w', Same0 w2 w' → Below w.heap.size w w') := fun w' hk => (KW.trans' hk).below
  by_cases hz : comE L0 a b' 99 = 0
  · obtain ⟨e1, e2, ca, cb', tT, tl, m1, m2, pl', e3, e4⟩ := inst_all hz
    have CM1 : Hid (∀ w3 to' tc', Same0 w2 w3 → IntsAt w3 to' (comT L0 a b' 99) → (comT L0 a b' 99).length ≤ tc' → Calls Try.prog 18 #[.slice ro L0.length rc, .slice ao a.length ac, .slice to' (comT L0 a b' 99).length tc', .int .i64 0] w3 fun e w' => (∃ v, e = .returned (.tuple #[v, .bool true])) ∧ Same0 w3 w') := by
      intro w3 to' tc' hk hi hcap
      have := rmatch_whole (pc := ac) (hrl.same hk) (ha.at'.same (KW.trans' hk)) hi ca tl tT hcap
      rw [m1] at this; exact this
    have CM2 : Hid (∀ w3 to' tc', Same0 w2 w3 → IntsAt w3 to' (comT L0 a b' 99) → (comT L0 a b' 99).length ≤ tc' → Calls Try.prog 18 #[.slice ro L0.length rc, .slice bo b'.length bc, .slice to' (comT L0 a b' 99).length tc', .int .i64 0] w3 fun e w' => (∃ v, e = .returned (.tuple #[v, .bool true])) ∧ Same0 w3 w') := by
      intro w3 to' tc' hk hi hcap
      have := rmatch_whole (pc := bc) (hrl.same hk) (hb.at'.same (KW.trans' hk)) hi cb' tl tT hcap
      rw [m2] at this; exact this
    have CCl : Hid (∀ w3, Same0 w2 w3 → Calls Try.prog 17 #[.pointer (some ⟨b, 0, none⟩), .slice ao a.length ac, .slice bo b'.length bc] w3 fun e w' => e = .returned (.tuple #[.bool false, .int .i64 0]) ∧ Same0 w3 w') := by
      intro w3 hk
      have := clash_any (xc := ac) (yc := bc) (sg_up (hsg.same hk) hk.size) (ha.at'.same (KW.trans' hk)) (hb.at'.same (KW.trans' hk)) (umaxLen ha.size) (umaxLen hb.size)
      rw [e3, e4] at this; exact this
    have HP : Hid (upl (comT L0 a b' 99) = comT L0 a b' 99) := pl'
    rw [hz] at CO1
    rw [e1, e2] at CO2
    generalize hTT : comT L0 a b' 99 = TT at *
    have tlm : TT.length ≤ maxLen := by unfold maxLen; omega
    have CS : Hid (∀ w3 xo xc yo yc, IntsAt w3 xo TT → IntsAt w3 yo TT → Calls Try.prog 13 #[.slice xo TT.length xc, .slice yo TT.length yc] w3 fun e w' => e = .returned (.bool true) ∧ Same0 w3 w') := by
      intro w3 xo xc yo yc h1 h2
      refine (same_any (acap := xc) (bcap := yc) h1 h2 tlm).mono ?_
      rintro e w' ⟨rfl, hk'⟩
      exact ⟨by simp [sameB], hk'⟩
    have CP : Hid (∀ (w3 : World) to' tc', IntsAt w3 to' TT → (to' = none → TT.length = 0 ∧ tc' = 0) → Calls Try.prog 19 #[.slice (some ⟨w3.heap.size, 0, none⟩) 1 1] (w3.alloc (.cells #[.slice to' TT.length tc'] 25)) fun e w' => ∃ g xo oc xc, e = .returned (.slice (some ⟨g, 0, none⟩) 1 oc) ∧ w'.cell? ⟨g, 0, none⟩ = some (.slice xo TT.length xc) ∧ g < w'.heap.size ∧ IntsAt w' xo TT ∧ Same0 w3 w') := by
      intro w3 to' tc' hi hn
      refine (rplain_one (ww := w3.alloc (.cells #[.slice to' TT.length tc'] 25)) (B := w3.heap.size) (cap := tc') (heap_alloc_new w3 _) (hi.same ((Kept.refl _ w3).alloc _)) hn (by omega)).mono ?_
      rintro e w' ⟨g, xo, oc, xc, q1, q2, q3, q4, q5⟩
      rw [HP.out] at q2 q4
      exact ⟨g, xo, oc, xc, q1, q2, q3, q4, Same0.new q5⟩
    have C2 := CC.out w2 (Kept.refl _ _)
    obtain ⟨c1, c2⟩ := C2
    clear hsg hrl hsy K2 k1 k2 kb KW ht hb hbox ha ca cb' m1 m2 pl' e3 e4 e1 e2 hz hTT HP
    go_upto_region 6 with (first | (go_at_call 14; refine (CO1.out w2 (Kept.refl _ _)).mono ?_; rintro e w3 ⟨xo, xc, rfl, i3, cap3, n3, k3⟩))
    have K3 := k3
    obtain ⟨c3, c4⟩ := CC.out w3 K3
    go_upto_region 9 with (first | (go_at_call 14; refine (CO2.out w3 K3).mono ?_; rintro e w4 ⟨yo, yc, rfl, i4, k4⟩))
    have K4 := K3.trans' k4
    obtain ⟨c5, c6⟩ := CC.out w4 K4
    have i34 := i3.same k4
    clear CO1 CO2 c1 c2 c3 c4 i3 k3 K3 k4
    go_upto_region 10 with (first | (go_at_call 18; refine (CM1.out w4 _ _ K4 i34 cap3).mono ?_; rintro e w5 ⟨⟨v5, rfl⟩, k5⟩))
    have K5 := K4.trans' k5
    obtain ⟨c7, c8⟩ := CC.out w5 K5
    have i35 := i34.same k5
    have i45 := i4.same k5
    clear CM1 c5 c6 i34 i4 k5 K4
    go_upto_region 11 with (first | (go_at_call 18; refine (CM2.out w5 _ _ K5 i35 cap3).mono ?_; rintro e w6 ⟨⟨v6, rfl⟩, k6⟩))
    have K6 := K5.trans' k6
    have i36 := i35.same k6
    have i46 := i45.same k6
    clear CM2 c7 c8 i35 i45 k6 K5
    go_upto_region 12 with (first | (go_at_call 13; refine (CS.out w6 _ _ _ _ i36 i46).mono ?_; rintro e w7 ⟨rfl, k7⟩))
    have K7 := K6.trans' k7
    have i37 := i36.same k7
    clear i36 i46 k7 K6
    go_upto_region 13 with (first | (go_at_call 19; refine (CP.out w7 _ _ i37 n3).mono ?_; rintro e w8 ⟨g, zo, oc, zc, rfl, p1, p2, p3, k8⟩; have i38 := i37.same k8) | (go_at_call 13; refine (CS.out w8 _ _ _ _ i38 p3).mono ?_; rintro e w9 ⟨rfl, k9⟩))
    have K9 := (K7.trans' k8).trans' k9
    obtain ⟨c9, c10⟩ := CC.out w9 K9
    clear CP CS i37 i38 p1 p2 p3 k8 k9 K7
    go_wp2_with (first | (go_at_call 17; refine (CCl.out w9 K9).mono ?_; rintro e w10 ⟨rfl, k10⟩))
    go_ret
    exact ⟨rfl, FIN.out _ (K9.trans' k10)⟩
  · have hz2 : ¬ comE L0 b' a 99 = 0 := fun e => hz (com_other e).1
    have t1 : comT L0 a b' 99 = [] := by unfold comT; rw [if_neg hz]
    have t2 : comT L0 b' a 99 = [] := by unfold comT; rw [if_neg hz2]
    rw [t1] at CO1
    rw [t2] at CO2
    have hz' : (comE L0 a b' 99 == 0) = false := by simpa using hz
    have hz2' : (comE L0 b' a 99 == 0) = false := by simpa using hz2
    obtain ⟨c1, c2⟩ := CC.out w2 (Kept.refl _ _)
    clear hsg hrl hsy K2 k1 k2 kb KW ht hb hbox ha t1 t2
    generalize comE L0 a b' 99 = E1 at *
    generalize comE L0 b' a 99 = E2 at *
    go_upto_region 6 with (first | (go_at_call 14; refine (CO1.out w2 (Kept.refl _ _)).mono ?_; rintro e w3 ⟨xo, xc, rfl, i3, cap3, n3, k3⟩))
    obtain ⟨c3, c4⟩ := CC.out w3 k3
    simp only [List.length_nil] at *
    go_wp2_with (first | (go_at_call 14; refine (CO2.out w3 k3).mono ?_; rintro e w4 ⟨yo, yc, rfl, i4, k4⟩))
    go_ret
    exact ⟨by simp [hz2], FIN.out _ (k3.trans' k4)⟩
end Go.Proofs.Ythhcnllabhfejaa
/- The walk of the statement UnifyMost. -/
namespace Go.Proofs.Ythhcnllabhfejaa
set_option maxRecDepth 100000
set_option linter.unusedVariables false
open Go.RowKit
attribute [local go_sem ↓] Go.wp_at_zero Go.wp_at_succ
/-- The document's Check of two terms. -/
theorem rcheck6_any {n : Nat} {w : World} {rv : Value} {L : List Sym} (h : Rl n w rv L) {ao bo : Option Addr} {ac bc : Nat} {a b : List Int} (ha : IntsAt w ao a) (hb : IntsAt w bo b) (ham : a.length ≤ maxLen) (hbm : b.length ≤ maxLen) :
    Calls Try.prog 15 #[rv, .slice ao a.length ac, .slice bo b.length bc] w fun e w' => e = .returned (.int .i64 (claE L a b)) ∧ w' = w := by
  have c1 := rcheck_any (cap := ac) h ha ham
  have c2 := rcheck_any (cap := bc) h hb hbm
  by_cases hz : checkE L a = 0
  · have e : claE L a b = checkE L b := by simp [claE, hz]
    rw [e]
    rw [hz] at c1
    clear hz e
    go_enter Try.func15, Try.ntmps15
    go_upto_region 4 with (first | (go_at_call 20; refine c1.mono ?_; rintro e w' ⟨rfl, rfl⟩))
    go_wp2_with (first | (go_at_call 20; refine c2.mono ?_; rintro e w' ⟨rfl, rfl⟩))
    go_ret
    exact ⟨rfl, rfl⟩
  · have e : claE L a b = checkE L a := by simp [claE, hz]
    rw [e]
    have hz' : (checkE L a == 0) = false := by simpa using hz
    clear hz e
    go_enter Try.func15, Try.ntmps15
    go_wp2_with (first | (go_at_call 20; refine c1.mono ?_; rintro e w' ⟨rfl, rfl⟩))
    go_ret
    exact ⟨rfl, rfl⟩
set_option maxHeartbeats 8000000 in
theorem most_walk (v : Value) (w : World) {lo : Option Addr} {ll lc : Nat} {ls : List Sym} {ao : Option Addr} {ac : Nat} {a : List Int} {bo : Option Addr} {bc : Nat} {b' : List Int} {so : Option Addr} {tc : Nat} {t : List Int} (hc : Case6Is w v lo ll lc ls ao ac a bo bc b' so tc t) :
    Calls Try.prog 7 #[v] w fun e w' => e = .returned (.bool true) ∧ Below w.heap.size w w' := by
  obtain ⟨rfl, hsy, hsl, ha, hb, ht⟩ := hc
  obtain ⟨wb, hwb⟩ : ∃ wb, wb = w.alloc (.cells #[.slice lo ll lc, .slice ao a.length ac, .slice bo b'.length bc, .slice so t.length tc] 27) := ⟨_, rfl⟩
  have kb : Same0 w wb := by rw [hwb]; exact (Kept.refl _ w).alloc _
  have hbox : wb.heap[w.heap.size]? = some (.cells #[.slice lo ll lc, .slice ao a.length ac, .slice bo b'.length bc, .slice so t.length tc] 27 (0, 0)) := by rw [hwb]; exact heap_alloc_new w _
  go_enter Try.func7, Try.ntmps7
  go_wp2_with fail
  rw [← hwb]
  generalize hcb : w.heap.size = cb at *
  clear hwb
  refine (awake6_any _).mono ?_
  rintro e w1 ⟨rfl, k1⟩
  obtain ⟨d0, _, _, _⟩ := case6_cells hbox k1
  go_wp2_with fail
  refine (made_any lo ll lc ls w1 (hsy.kept (kb.trans' k1).below) hsl).mono ?_
  rintro e w2 ⟨b, rv, rfl, hsg, hrl, k2⟩
  obtain ⟨L0, hL0⟩ : ∃ L0, L0 = madeL ls := ⟨_, rfl⟩
  rw [← hL0] at hsg hrl
  clear hL0 d0
  have K2 := k1.trans' k2
  have KW := kb.trans' K2
  obtain ⟨ro, rc, rfl⟩ := row_shape hrl.1
  have CC : Hid (∀ w3, Same0 w2 w3 → w3.cell? ⟨cb, 1, none⟩ = some (.slice ao a.length ac) ∧ w3.cell? ⟨cb, 2, none⟩ = some (.slice bo b'.length bc) ∧ w3.cell? ⟨cb, 3, none⟩ = some (.slice so t.length tc)) := fun w3 hk => (case6_cells hbox (K2.trans' hk)).2
  have R1 := rcheck6_any (ac := ac) (bc := bc) hrl (ha.at'.same KW) (hb.at'.same KW) (umaxLen ha.size) (umaxLen hb.size)
  have R2 := rcheck_any (cap := tc) hrl (ht.at'.same KW) (umaxLen ht.size)
  have FIN : Hid (∀ w', Same0 w2 w' → Below w.heap.size w w') := fun w' hk => (KW.trans' hk).below
  clear hcb
  obtain ⟨c1, c2, c3⟩ := CC.out w2 (Kept.refl _ _)
  by_cases hA : claE L0 a b' = 0
  · by_cases hB : checkE L0 t = 0
    · have hab : checkE L0 a = 0 ∧ checkE L0 b' = 0 := by
        unfold claE at hA
        by_cases q : checkE L0 a ≠ 0
        · rw [if_pos q] at hA; exact absurd hA q
        · rw [if_neg q] at hA; exact ⟨by simpa using q, hA⟩
      obtain ⟨t1, t2, t3⟩ := checkE_zero.1 hB
      have M1 := rmatch_whole (pc := ac) hrl (ha.at'.same KW) (ht.at'.same KW) hab.1 t1 t3 ht.cap'
      have CM2 : Hid (∀ w3, Same0 w2 w3 → Calls Try.prog 18 #[.slice ro L0.length rc, .slice bo b'.length bc, .slice so t.length tc, .int .i64 0] w3 fun e w' => (∃ v, e = .returned (.tuple #[v, .bool (mw L0 b' t noT).isSome])) ∧ Same0 w3 w') := fun w3 hk => rmatch_whole (pc := bc) (hrl.same hk) (hb.at'.same (KW.trans' hk)) (ht.at'.same (KW.trans' hk)) hab.2 t1 t3 ht.cap'
      have CO : Hid (∀ w3, Same0 w2 w3 → Calls Try.prog 14 #[.pointer (some ⟨b, 0, none⟩), .slice ao a.length ac, .slice bo b'.length bc] w3 fun e w' => ∃ to' tc', e = .returned (.tuple #[.slice to' (comT L0 a b' 99).length tc', .int .i64 (comE L0 a b' 99)]) ∧ IntsAt w' to' (comT L0 a b' 99) ∧ Same0 w3 w') := by
        intro w3 hk
        refine (overlap_any (xc := ac) (yc := bc) (sg_up (hsg.same hk) hk.size) (ha.at'.same (KW.trans' hk)) (hb.at'.same (KW.trans' hk)) (umaxLen ha.size) (umaxLen hb.size)).mono ?_
        rintro e w' ⟨v, rfl, hr, hk'⟩
        obtain ⟨to', tc', rfl, hi, hcap, _⟩ := hr.ints
        exact ⟨to', tc', rfl, hi, hk'⟩
      rw [hA] at R1
      rw [hB] at R2
      go_upto_region 7 with (first | (go_at_call 15; refine R1.mono ?_; rintro e w' ⟨rfl, hw'⟩; obtain rfl : w2 = w' := hw'.symm) | (go_at_call 20; refine R2.mono ?_; rintro e w' ⟨rfl, hw'⟩; obtain rfl : w2 = w' := hw'.symm))
      go_upto_region 8 with (first | (go_at_call 18; refine M1.mono ?_; rintro e w3 ⟨⟨v3, rfl⟩, k3⟩))
      obtain ⟨f1, f2, f3⟩ := CC.out w3 k3
      clear M1 R1 R2 c1 c2 c3
      by_cases hm : (mw L0 a t noT).isSome = true ∧ (mw L0 b' t noT).isSome = true
      · obtain ⟨m1, m2⟩ := hm
        obtain ⟨e1, e2, e3⟩ := most_all hab.1 hab.2 hB m1 m2
        have CK : Hid (∀ w3 to' tc', Same0 w2 w3 → IntsAt w3 to' (comT L0 a b' 99) → Calls Try.prog 20 #[.slice ro L0.length rc, .slice to' (comT L0 a b' 99).length tc'] w3 fun e w' => e = .returned (.int .i64 (checkE L0 (comT L0 a b' 99))) ∧ w' = w3) := fun w3 to' tc' hk hi => rcheck_any (cap := tc') (hrl.same hk) hi (by unfold maxLen; omega)
        have CM3 : Hid (checkE L0 (comT L0 a b' 99) = 0 → ∀ w3 to' tc', Same0 w2 w3 → IntsAt w3 to' (comT L0 a b' 99) → Calls Try.prog 18 #[.slice ro L0.length rc, .slice to' (comT L0 a b' 99).length tc', .slice so t.length tc, .int .i64 0] w3 fun e w' => (∃ v, e = .returned (.tuple #[v, .bool (mw L0 (comT L0 a b' 99) t noT).isSome])) ∧ Same0 w3 w') := fun hck w3 to' tc' hk hi => rmatch_whole (pc := tc') (hrl.same hk) hi (ht.at'.same (KW.trans' hk)) hck t1 t3 ht.cap'
        have E3 : Hid ((∀ n ∈ comT L0 a b' 99, -99 ≤ n) → checkE L0 (comT L0 a b' 99) = 0 ∧ (mw L0 (comT L0 a b' 99) t noT).isSome = true) := e3
        rw [e1] at CO
        rw [m2] at CM2
        rw [m1]
        clear hsg hrl hsy K2 k1 k2 kb KW ht hb hbox ha m1 m2 hA hB hab t1 t2 t3 e3 e1
        generalize hTT : comT L0 a b' 99 = TT at *
        have tlm : (TT.length : Int) ≤ 2000 := by omega
        go_upto_region 9 with (first | (go_at_call 18; refine (CM2.out w3 k3).mono ?_; rintro e w4 ⟨⟨v4, rfl⟩, k4⟩))
        have K4 := k3.trans' k4
        obtain ⟨g1, g2, g3⟩ := CC.out w4 K4
        clear CM2 f1 f2 f3 k4 k3 hTT
        go_upto_region 14 with (first | (go_at_call 14; refine (CO.out w4 K4).mono ?_; rintro e w5 ⟨xo, xc, rfl, i5, k5⟩))
        have K5 := K4.trans' k5
        obtain ⟨h1, h2, h3⟩ := CC.out w5 K5
        clear CO g1 g2 g3 k5 K4
        go_wp2_with fail
        go_loopw [12, 13] (fun s12 s13 wr => ∃ (z : Int) (i : Nat), s12 = .int .i64 z ∧ s13 = .int .i64 (i : Int) ∧ i ≤ TT.length ∧ wr = w5 ∧ Hid (∀ j (h : j < TT.length), j < i → z ≤ TT[j])) (fun _ s13 _ => TT.length - (intOf s13).toNat)
        case atStart => exact ⟨0, 0, rfl, rfl, by omega, rfl, fun j _ h => by omega⟩
        case round =>
          obtain ⟨z, i, rfl, rfl, hi, rfl, HZ⟩ := hrel
          by_cases hlt : i < TT.length
          · obtain ⟨xb, xof, rfl, hxb, hx⟩ := i5.get hlt
            have q1 : (0 : Int) ≤ (i : Int) := by omega
            have q2 : (i : Int) < (TT.length : Int) := by omega
            obtain ⟨y, hy⟩ : ∃ y, TT[i] = y := ⟨_, rfl⟩
            rw [hy] at hx
            by_cases hyz : y < z
            · have HZ' : Hid (∀ j (h : j < TT.length), j < i + 1 → y ≤ TT[j]) := by
                intro j h hj
                by_cases e : j = i
                · subst e; omega
                · have := HZ.out j h (by omega); omega
              clear HZ hy
              go_wp2_with fail
              go_roundw
              case rel => exact ⟨y, i + 1, rfl, by go_num, by omega, (by first | rfl | trivial), HZ'⟩
              case measure => simp [intOf]; omega
            · have HZ' : Hid (∀ j (h : j < TT.length), j < i + 1 → z ≤ TT[j]) := by
                intro j h hj
                by_cases e : j = i
                · subst e; omega
                · exact HZ.out j h (by omega)
              clear HZ hy
              go_wp2_with fail
              go_roundw
              case rel => exact ⟨z, i + 1, rfl, by go_num, by omega, (by first | rfl | trivial), HZ'⟩
              case measure => simp [intOf]; omega
          · have q2 : ¬ (i : Int) < (TT.length : Int) := by omega
            have hie : i = TT.length := by omega
            by_cases hz : z < -99
            · clear HZ hie
              go_wp2_with fail
              go_ret
              exact ⟨rfl, FIN.out _ K5⟩
            · have hlow : ∀ n ∈ TT, -99 ≤ n := by
                intro n hn
                obtain ⟨j, hj, rfl⟩ := List.getElem_of_mem hn
                have := HZ.out j hj (by omega)
                omega
              obtain ⟨y1, y2⟩ := E3.out hlow
              have cK := CK.out _ xo xc K5 i5
              have cM := CM3.out y1 _ xo xc K5 i5
              rw [y1] at cK
              rw [y2] at cM
              clear HZ hie CK CM3 E3
              go_wp2_with (first | (go_at_call 20; refine cK.mono ?_; rintro e w' ⟨rfl, rfl⟩) | (go_at_call 18; refine cM.mono ?_; rintro e w6 ⟨⟨v6, rfl⟩, k6⟩))
              go_ret
              exact ⟨rfl, FIN.out _ (K5.trans' k6)⟩
      · generalize (mw L0 a t noT).isSome = M1 at *
        generalize (mw L0 b' t noT).isSome = M2 at *
        clear CO
        go_upto_region 9 with (first | (go_at_call 18; refine (CM2.out w3 k3).mono ?_; rintro e w4 ⟨⟨v4, rfl⟩, k4⟩))
        cases M1 <;> cases M2 <;> simp at hm
        all_goals
          go_wp2_with fail
          go_ret
          exact ⟨rfl, FIN.out _ (k3.trans' k4)⟩
    · rw [hA] at R1
      have hB' : (checkE L0 t == 0) = false := by simpa using hB
      generalize checkE L0 t = E at *
      clear hB
      go_wp2_with (first | (go_at_call 15; refine R1.mono ?_; rintro e w' ⟨rfl, hw'⟩; obtain rfl : w2 = w' := hw'.symm) | (go_at_call 20; refine R2.mono ?_; rintro e w' ⟨rfl, hw'⟩; obtain rfl : w2 = w' := hw'.symm))
      go_ret
      exact ⟨rfl, FIN.out _ (Kept.refl _ _)⟩
  · have hA' : (claE L0 a b' == 0) = false := by simpa using hA
    generalize claE L0 a b' = E at *
    go_wp2_with (first | (go_at_call 15; refine R1.mono ?_; rintro e w' ⟨rfl, hw'⟩; obtain rfl : w2 = w' := hw'.symm))
    go_ret
    exact ⟨rfl, FIN.out _ (Kept.refl _ _)⟩
end Go.Proofs.Ythhcnllabhfejaa
