/- The walk of the document's Depth. -/
import Derived.Test.YtgoifkbdiicmkaaTermPath
import Derived.Test.YtgoifkbdiicmkaaRefTerm
namespace Go.Proofs.Ytgoifkbdiicmkaa
set_option linter.unusedVariables false
open Go.RowKit
attribute [local go_sem ↓] Go.wp_at_zero Go.wp_at_succ
/-- How many arguments must come yet, of each symbol around. -/
def remL (st : List (Nat × Nat)) : List Nat := st.map fun x => x.2 - x.1
theorem remL_length (st : List (Nat × Nat)) : (remL st).length = st.length := by simp [remL]
/-- The row as the document keeps it: the last is the top. -/
def rowR (R : List Nat) : List Int := ofN R.reverse
theorem rowR_length (R : List Nat) : (rowR R).length = R.length := by simp [rowR, ofN]
theorem rowR_cons (x : Nat) (R : List Nat) : rowR (x :: R) = rowR R ++ [(x : Int)] := by simp [rowR, ofN]
/-- What the inner loop holds: nothing is left to be done, or a nought is on top. -/
def Sunk (fin : List (Nat × Nat)) (R : List Nat) : Prop := R = remL fin ∨ ∃ st, Fine st ∧ R = 0 :: remL st ∧ bump st = fin
def lenOf : Value → Nat
  | .slice _ n _ => n
  | _ => 0
theorem Row.last {base : Nat} {w : World} {v : Value} {x : Nat} {R : List Nat} (h : Row base w v (rowR (x :: R))) : ∃ g cap, v = .slice (some ⟨g, 0, none⟩) (R.length + 1) cap ∧ w.cell? ⟨g, R.length, none⟩ = some (.int .i64 (x : Int)) ∧ w.frozen? ⟨g, R.length, none⟩ = false ∧ R.length + 1 ≤ cap ∧ base ≤ g ∧ g < w.heap.size := by
  have hl : (rowR (x :: R)).length = R.length + 1 := by rw [rowR_length]; rfl
  have h' := h
  unfold Row at h'
  rw [hl] at h'
  obtain ⟨g, cap, hv, hb, hlt⟩ := h'.form (by omega)
  subst hv
  refine ⟨g, cap, rfl, ?_, h'.frozenAt _, ?_, hb, hlt⟩
  · rw [h'.cellAt _ (by omega), rowR_cons, iv_append, List.getElem?_append_right (by rw [iv_length, rowR_length]; exact Nat.le_refl _)]
    simp [rowR_length, iv]
  · rcases h'.2 with ⟨e, _⟩ | ⟨_, _, _, hv, _, _, hle, _⟩
    · cases e
    · simp only [Value.slice.injEq] at hv
      have := hv.2.2
      omega
theorem Row.pop {base g cap : Nat} {w : World} {x : Nat} {R : List Nat} (h : Row base w (.slice (some ⟨g, 0, none⟩) (R.length + 1) cap) (rowR (x :: R))) : Row base w (.slice (some ⟨g, 0, none⟩) R.length cap) (rowR R) := by
  have hl : (rowR (x :: R)).length = R.length + 1 := by rw [rowR_length]; rfl
  have h' := h
  unfold Row at h'
  rw [hl] at h'
  have := row_take (m := R.length) h' (by omega)
  rw [Nat.mul_one, rowR_cons, iv_append, List.take_left' (by rw [iv_length, rowR_length])] at this
  unfold Row
  rw [rowR_length]
  exact this
theorem Row.dec {base g cap : Nat} {w : World} {x : Nat} {R : List Nat} (h : Row base w (.slice (some ⟨g, 0, none⟩) (R.length + 1) cap) (rowR (x :: R))) (y : Nat) : Row base (w.setCell ⟨g, R.length, none⟩ (.int .i64 (y : Int))) (.slice (some ⟨g, 0, none⟩) (R.length + 1) cap) (rowR (y :: R)) := by
  have hl : ∀ z : Nat, (rowR (z :: R)).length = R.length + 1 := fun z => by rw [rowR_length]; rfl
  have h' := h
  unfold Row at h' ⊢
  rw [hl] at h' ⊢
  have := (h'.stored R.length (.int .i64 (y : Int))).1
  have e : (iv (rowR (x :: R))).set R.length (.int .i64 (y : Int)) = iv (rowR (y :: R)) := by
    rw [rowR_cons, rowR_cons, iv_append, iv_append, List.set_append_right _ _ (by rw [iv_length, rowR_length]; exact Nat.le_refl _)]
    simp [rowR_length, iv]
  rw [e] at this
  exact this
theorem sunk_start {L : List Sym} {t : List Int} {k : Nat} (hk : k < t.length) (hf : Fine (way L t k)) : Sunk (way L t (k + 1)) (arN L t[k] :: remL (way L t k)) := by
  rw [way_succ hk, pass]
  by_cases h : 0 < arN L t[k]
  · rw [if_pos h]; exact .inl (by simp [remL])
  · rw [if_neg h]; exact .inr ⟨_, hf, by simp; omega, rfl⟩
theorem way_fine {L : List Sym} (ha : Ars L) (t : List Int) (k : Nat) (hk : k ≤ t.length) : Fine (way L t k) := by
  induction k with
  | zero => intro x hx; simp [way, run] at hx
  | succ k ih => rw [way_succ (by omega)]; exact pass_fine (ih (by omega)) (arN_le ha _)
/-- A round of the inner loop, in plain words. -/
theorem sunk_step {fin : List (Nat × Nat)} {R : List Nat} (h : Sunk fin (0 :: R)) (hf : Fine fin) : (R = [] → Sunk fin []) ∧ (∀ m r, R = m :: r → 1 ≤ m ∧ m ≤ 6 ∧ Sunk fin ((m - 1) :: r)) := by
  rcases h with h | ⟨st, hs, h, hb⟩
  · exfalso
    cases fin with
    | nil => simp [remL] at h
    | cons x r =>
      have := hf x (by simp)
      simp [remL] at h
      omega
  · simp only [List.cons.injEq, true_and] at h
    subst h
    cases st with
    | nil => exact ⟨fun _ => .inl (by rw [← hb]; rfl), fun m r e => by simp [remL] at e⟩
    | cons x r0 =>
      obtain ⟨j, a⟩ := x
      have hx := hs (j, a) (by simp)
      refine ⟨fun e => by simp [remL] at e, fun m r e => ?_⟩
      simp only [remL, List.map_cons, List.cons.injEq] at e
      obtain ⟨rfl, rfl⟩ := e
      refine ⟨by omega, by omega, ?_⟩
      rw [bump] at hb
      by_cases hj : j + 1 < a
      · rw [if_pos hj] at hb
        left
        rw [← hb]
        simp [remL]; omega
      · rw [if_neg hj] at hb
        right
        exact ⟨r0, fun y hy => hs y (by simp [hy]), by simp [remL]; omega, hb⟩
theorem sunk_end {fin : List (Nat × Nat)} {R : List Nat} (h : Sunk fin R) (hn : ∀ r, R ≠ 0 :: r) : R = remL fin := by
  rcases h with h | ⟨st, _, h, _⟩
  · exact h
  · exact absurd h (hn _)
theorem sunk_small {fin : List (Nat × Nat)} {x : Nat} {R : List Nat} (h : Sunk fin (x :: R)) (hf : Fine fin) : x ≤ 6 := by
  rcases h with h | ⟨st, _, h, _⟩
  · cases fin with
    | nil => simp [remL] at h
    | cons y r => have := hf y (by simp); simp [remL] at h; omega
  · simp at h; omega
set_option maxRecDepth 4000 in
set_option maxHeartbeats 4000000 in
theorem rdepth_any {n : Nat} {w : World} {rv : Value} {L : List Sym} (h : Rl n w rv L) {ao : Option Addr} {cap : Nat} {t : List Int} (ht : IntsAt w ao t) (hm : t.length ≤ 2000) :
    Calls Try.prog 15 #[rv, .slice ao t.length cap] w fun e w' => e = .returned (.int .i64 (deepN L t t.length : Int)) ∧ Same0 w w' := by
  have c1 : Hid (∀ w1 x, Same0 w w1 → Calls Try.prog 44 #[rv, .int .i64 x] w1 fun e w' => e = .returned (.int .i64 (arN L x : Int)) ∧ w' = w1) := fun w1 x hk => rarity_any (h.same hk) x
  have HAR : Hid (∀ x, arN L x ≤ 6) := fun x => arN_le h.2.2.1 x
  have HF : Hid (∀ k, k ≤ t.length → Fine (way L t k)) := fun k hk => way_fine h.2.2.1 t k hk
  obtain ⟨ro, rcap, rfl⟩ := row_shape h.1
  go_enter Try.func15, Try.ntmps15
  go_wp2
  go_loopw [5, 6, 7] (fun dv ov kv wr => ∃ k : Nat, k ≤ t.length ∧ kv = .int .i64 (k : Int) ∧ dv = .int .i64 (deepN L t k : Int) ∧ Row w.heap.size wr ov (rowR (remL (way L t k))) ∧ Same0 w wr) (fun _ _ kv _ => t.length - (intOf kv).toNat)
  case atStart => exact ⟨0, Nat.zero_le _, rfl, rfl, World.ownsRow_nil _ _ _ _, Kept.refl _ _⟩
  case round =>
    obtain ⟨k, hk, rfl, rfl, hr, hs⟩ := hrel
    by_cases hlt : k < t.length
    · obtain ⟨tb, off, rfl, _, hcc⟩ := (ht.same hs).get hlt
      have hfine := HF.out k (by omega)
      have hss := sunk_start hlt hfine
      have hfin := HF.out (k + 1) (by omega)
      have E2 : Hid (deepN L t (k + 1) = max (deepN L t k) ((way L t k).length + 1)) := rfl
      have hwl := way_length L t k (by omega)
      have hdl := deepN_le L t k (by omega)
      have cA := c1.out wr t[k] hs
      have h6 := HAR.out t[k]
      have i1 : (0 : Int) ≤ (k : Int) := by omega
      have i2 : (k : Int) < (t.length : Int) := by omega
      have hRl := rowR_length (remL (way L t k))
      rw [remL_length] at hRl
      have hRlen : Hid ((remL (way L t k)).length ≤ k) := by show _ ≤ _; rw [remL_length]; exact hwl
      generalize arN L t[k] = m at *
      generalize hD : deepN L t k = D at *
      obtain ⟨oo, ocap, rfl⟩ := row_shape hr
      rw [hRl]
      have hcons := rowR_cons m (remL (way L t k))
      generalize hRR : remL (way L t k) = R at *
      generalize rowR R = zs at *
      generalize hWl : (way L t k).length = Wl at *
      subst hRl
      have hb8 : (zs.length + 1) * 8 ≤ 140737488355328 := by omega
      by_cases hmx : (D : Int) < (zs.length : Int) + 1
      · have EE : Hid ((deepN L t (k + 1) : Int) = (zs.length : Int) + 1) := by have := E2.out; show _ = _; omega
        have hmx' : decide ((D : Int) < (zs.length : Int) + 1) = true := by simpa using hmx
        go_wp2_with (first | (go_at_call 44; refine cA.mono ?_; rintro e wr ⟨rfl, rfl⟩) | (at_builtin; refine wpList_push rfl _ _ 24 rfl Try.underlying24 w.heap.size zs _ rfl hr (m : Int) rfl hs.size hb8 ?_; intro g gcap w4 hr4 hk4 _; have hs4 := hs.onto hr hk4))
        rw [← hcons] at hr4
        have hss' : Sunk (way L t (k + 1)) (m :: R) := hss
        have hlen' : (m :: R).length ≤ k + 1 := by have := hRlen.out; simp; omega
        clear cA hr hk4 hs hss hcc hcons
        go_loopw [6] (fun ov wr => ∃ R' : List Nat, Row w.heap.size wr ov (rowR R') ∧ Sunk (way L t (k + 1)) R' ∧ R'.length ≤ k + 1 ∧ Same0 w wr) (fun ov _ => lenOf ov)
        case atStart => exact ⟨m :: R, hr4, hss', hlen', hs4⟩
        case round =>
          clear hr4 hss' hlen' hs4
          obtain ⟨R', hrr, hsk, hlr, hs5⟩ := hrel
          cases R' with
          | nil =>
            obtain ⟨vo, vcap, rfl⟩ := row_shape hrr
            have he := sunk_end hsk (by simp)
            rw [he] at hrr
            have hl0 : (rowR ([] : List Nat)).length = 0 := rfl
            rw [hl0]
            rw [← he, hl0] at hrr
            rw [he] at hrr
            clear he hl0
            go_wp2
            go_roundw
            case rel => first | exact ⟨k + 1, by omega, by go_num, by rw [EE.out], hrr, hs5⟩ | ((repeat apply Exists.intro); exact ⟨⟨k + 1, by omega, by go_num, by rw [EE.out], hrr, hs5⟩, rfl⟩)
            case measure => simp [intOf]; omega
          | cons x R2 =>
            obtain ⟨g2, cap2, rfl, q1, q2, q3, q4, q5⟩ := hrr.last
            have hx6 := sunk_small hsk hfin
            have hlr2 : R2.length ≤ k := by simp at hlr; omega
            have a1 : (0 : Int) ≤ (R2.length : Int) := by omega
            have a2 : (R2.length : Int) < ((R2.length + 1 : Nat) : Int) := by omega
            have a3 : (0 : Int) < (R2.length : Int) + 1 := by omega
            have a4 : (R2.length : Int) ≤ (cap2 : Int) := by omega
            by_cases hx : x = 0
            · subst hx
              obtain ⟨t1, t2⟩ := sunk_step hsk hfin
              have hpop := hrr.pop
              cases R2 with
              | nil =>
                have hsk2 := t1 rfl
                have hl0 : ([] : List Nat).length = 0 := rfl
                rw [hl0] at q1 q2 q3 a1 a2 a3 a4 hpop
                rw [hl0]
                clear t1 t2 hrr hsk hl0
                go_wp2
                go_roundw
                case rel => first | exact ⟨[], hpop, hsk2, by simp, hs5⟩ | ((repeat apply Exists.intro); exact ⟨⟨[], hpop, hsk2, by simp, hs5⟩, rfl⟩)
                case measure => simp [lenOf]
              | cons m2 r =>
                obtain ⟨b1, b2, hsk2⟩ := t2 m2 r rfl
                obtain ⟨g3, cap3, hv3, p1, p2, p3, p4, p5⟩ := hpop.last
                simp only [Value.slice.injEq, Option.some.injEq, Addr.mk.injEq, and_true] at hv3
                obtain ⟨rfl, _, rfl⟩ := hv3
                have hdec := hpop.dec (m2 - 1)
                have em : ((m2 - 1 : Nat) : Int) = (m2 : Int) - 1 := by omega
                rw [em] at hdec
                have hs6 : Same0 w (wr.setCell ⟨g2, r.length, none⟩ (.int .i64 ((m2 : Int) - 1))) := hs5.own (by omega) _
                have hl3 : (m2 :: r).length = r.length + 1 := rfl
                rw [hl3] at q1 q2 q3 a1 a2 a3 a4 hlr2
                rw [hl3]
                have a5 : (0 : Int) ≤ (r.length : Int) := by omega
                have a6 : (r.length : Int) < ((r.length + 1 : Nat) : Int) := by omega
                clear t1 t2 hrr hsk hpop em hl3
                go_wp2
                go_roundw
                case rel => first | exact ⟨(m2 - 1) :: r, hdec, hsk2, by simp; omega, hs6⟩ | ((repeat apply Exists.intro); exact ⟨⟨(m2 - 1) :: r, hdec, hsk2, by simp; omega, hs6⟩, rfl⟩)
                case measure => simp [lenOf]
            · have he := sunk_end hsk (by simp; omega)
              have hxx : ((x : Int) == 0) = false := by simp; omega
              have hxi : ¬ (x : Int) = 0 := by omega
              rw [he] at hrr
              clear he hsk
              go_wp2
              go_roundw
              case rel => first | exact ⟨k + 1, by omega, by go_num, by rw [EE.out], hrr, hs5⟩ | ((repeat apply Exists.intro); exact ⟨⟨k + 1, by omega, by go_num, by rw [EE.out], hrr, hs5⟩, rfl⟩)
              case measure => simp [intOf]; omega
      · have EE : Hid ((deepN L t (k + 1) : Int) = (D : Int)) := by have := E2.out; show _ = _; omega
        have hmx' : decide ((D : Int) < (zs.length : Int) + 1) = false := by simpa using hmx
        go_wp2_with (first | (go_at_call 44; refine cA.mono ?_; rintro e wr ⟨rfl, rfl⟩) | (at_builtin; refine wpList_push rfl _ _ 24 rfl Try.underlying24 w.heap.size zs _ rfl hr (m : Int) rfl hs.size hb8 ?_; intro g gcap w4 hr4 hk4 _; have hs4 := hs.onto hr hk4))
        rw [← hcons] at hr4
        have hss' : Sunk (way L t (k + 1)) (m :: R) := hss
        have hlen' : (m :: R).length ≤ k + 1 := by have := hRlen.out; simp; omega
        clear cA hr hk4 hs hss hcc hcons
        go_loopw [6] (fun ov wr => ∃ R' : List Nat, Row w.heap.size wr ov (rowR R') ∧ Sunk (way L t (k + 1)) R' ∧ R'.length ≤ k + 1 ∧ Same0 w wr) (fun ov _ => lenOf ov)
        case atStart => exact ⟨m :: R, hr4, hss', hlen', hs4⟩
        case round =>
          clear hr4 hss' hlen' hs4
          obtain ⟨R', hrr, hsk, hlr, hs5⟩ := hrel
          cases R' with
          | nil =>
            obtain ⟨vo, vcap, rfl⟩ := row_shape hrr
            have he := sunk_end hsk (by simp)
            rw [he] at hrr
            have hl0 : (rowR ([] : List Nat)).length = 0 := rfl
            rw [hl0]
            rw [← he, hl0] at hrr
            rw [he] at hrr
            clear he hl0
            go_wp2
            go_roundw
            case rel => first | exact ⟨k + 1, by omega, by go_num, by rw [EE.out], hrr, hs5⟩ | ((repeat apply Exists.intro); exact ⟨⟨k + 1, by omega, by go_num, by rw [EE.out], hrr, hs5⟩, rfl⟩)
            case measure => simp [intOf]; omega
          | cons x R2 =>
            obtain ⟨g2, cap2, rfl, q1, q2, q3, q4, q5⟩ := hrr.last
            have hx6 := sunk_small hsk hfin
            have hlr2 : R2.length ≤ k := by simp at hlr; omega
            have a1 : (0 : Int) ≤ (R2.length : Int) := by omega
            have a2 : (R2.length : Int) < ((R2.length + 1 : Nat) : Int) := by omega
            have a3 : (0 : Int) < (R2.length : Int) + 1 := by omega
            have a4 : (R2.length : Int) ≤ (cap2 : Int) := by omega
            by_cases hx : x = 0
            · subst hx
              obtain ⟨t1, t2⟩ := sunk_step hsk hfin
              have hpop := hrr.pop
              cases R2 with
              | nil =>
                have hsk2 := t1 rfl
                have hl0 : ([] : List Nat).length = 0 := rfl
                rw [hl0] at q1 q2 q3 a1 a2 a3 a4 hpop
                rw [hl0]
                clear t1 t2 hrr hsk hl0
                go_wp2
                go_roundw
                case rel => first | exact ⟨[], hpop, hsk2, by simp, hs5⟩ | ((repeat apply Exists.intro); exact ⟨⟨[], hpop, hsk2, by simp, hs5⟩, rfl⟩)
                case measure => simp [lenOf]
              | cons m2 r =>
                obtain ⟨b1, b2, hsk2⟩ := t2 m2 r rfl
                obtain ⟨g3, cap3, hv3, p1, p2, p3, p4, p5⟩ := hpop.last
                simp only [Value.slice.injEq, Option.some.injEq, Addr.mk.injEq, and_true] at hv3
                obtain ⟨rfl, _, rfl⟩ := hv3
                have hdec := hpop.dec (m2 - 1)
                have em : ((m2 - 1 : Nat) : Int) = (m2 : Int) - 1 := by omega
                rw [em] at hdec
                have hs6 : Same0 w (wr.setCell ⟨g2, r.length, none⟩ (.int .i64 ((m2 : Int) - 1))) := hs5.own (by omega) _
                have hl3 : (m2 :: r).length = r.length + 1 := rfl
                rw [hl3] at q1 q2 q3 a1 a2 a3 a4 hlr2
                rw [hl3]
                have a5 : (0 : Int) ≤ (r.length : Int) := by omega
                have a6 : (r.length : Int) < ((r.length + 1 : Nat) : Int) := by omega
                clear t1 t2 hrr hsk hpop em hl3
                go_wp2
                go_roundw
                case rel => first | exact ⟨(m2 - 1) :: r, hdec, hsk2, by simp; omega, hs6⟩ | ((repeat apply Exists.intro); exact ⟨⟨(m2 - 1) :: r, hdec, hsk2, by simp; omega, hs6⟩, rfl⟩)
                case measure => simp [lenOf]
            · have he := sunk_end hsk (by simp; omega)
              have hxx : ((x : Int) == 0) = false := by simp; omega
              have hxi : ¬ (x : Int) = 0 := by omega
              rw [he] at hrr
              clear he hsk
              go_wp2
              go_roundw
              case rel => first | exact ⟨k + 1, by omega, by go_num, by rw [EE.out], hrr, hs5⟩ | ((repeat apply Exists.intro); exact ⟨⟨k + 1, by omega, by go_num, by rw [EE.out], hrr, hs5⟩, rfl⟩)
              case measure => simp [intOf]; omega
    · obtain rfl : k = t.length := by omega
      obtain ⟨oo, ocap, rfl⟩ := row_shape hr
      go_wp2
      go_ret
      exact ⟨rfl, hs⟩
end Go.Proofs.Ytgoifkbdiicmkaa
