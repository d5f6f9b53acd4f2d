/- The walks of the document's term (ref02): arity, Check, End, Args, Sub, Put. -/
import Derived.Test.YthhcnllabhfejaaAwake2
namespace Go.Proofs.Ythhcnllabhfejaa
set_option maxRecDepth 100000
set_option linter.unusedVariables false
open Go.RowKit
attribute [local go_sem ↓] Go.wp_at_zero Go.wp_at_succ
set_option maxHeartbeats 1000000 in
theorem rArity_any {n : Nat} {w : World} {rv : Value} {L : List Sym} (h : Rl n w rv L) (x : Int) : Calls Try.prog 49 #[rv, .int .i64 x] w fun e w' => e = .returned (.int .i64 (if x < 0 ∨ (L.length : Int) ≤ x then -1 else (arN L x : Int))) ∧ w' = w := by
  obtain ⟨hr, _, ha, hlen⟩ := h
  obtain ⟨ao, cap, rfl⟩ := row_shape hr
  by_cases h0 : x < 0
  · go_enter Try.func49, Try.ntmps49
    go_wp2
    go_ret
    exact ⟨rfl, rfl⟩
  · by_cases h1 : (L.length : Int) ≤ x
    · go_enter Try.func49, Try.ntmps49
      go_wp2
      go_ret
      exact ⟨rfl, rfl⟩
    · obtain ⟨i, rfl⟩ : ∃ i : Nat, x = (i : Int) := ⟨x.toNat, by omega⟩
      have hi : i < L.length := by omega
      have H : Hid (((arN L (i : Int) : Nat) : Int) = L[i].ar) := ar_of ha hi
      obtain ⟨g, rfl, hg, x0, x1, x2⟩ := row_sym hr hi
      have i1 : (0 : Int) ≤ (i : Int) := by omega
      have i2 : (i : Int) < (L.length : Int) := by omega
      go_enter Try.func49, Try.ntmps49
      go_wp2
      go_ret
      exact ⟨by rw [H.out]; rfl, rfl⟩
set_option maxHeartbeats 1000000 in
theorem rarity_any {n : Nat} {w : World} {rv : Value} {L : List Sym} (h : Rl n w rv L) (x : Int) : Calls Try.prog 32 #[rv, .int .i64 x] w fun e w' => e = .returned (.int .i64 (arN L x : Int)) ∧ w' = w := by
  have c := rArity_any h x
  by_cases hx : x < 0 ∨ (L.length : Int) ≤ x
  · rw [if_pos hx] at c
    have H : Hid (arN L x = 0) := ar_no hx
    go_enter Try.func32, Try.ntmps32
    go_wp2_with (first | (go_at_call 49; refine c.mono ?_; rintro e w' ⟨rfl, rfl⟩))
    go_ret
    exact ⟨by rw [H.out]; rfl, rfl⟩
  · rw [if_neg hx] at c
    go_enter Try.func32, Try.ntmps32
    go_wp2_with (first | (go_at_call 49; refine c.mono ?_; rintro e w' ⟨rfl, rfl⟩))
    go_ret
    exact ⟨rfl, rfl⟩
set_option maxHeartbeats 2000000 in
theorem rend_any {n : Nat} {w : World} {rv : Value} {L : List Sym} (h : Rl n w rv L) {ao : Option Addr} {cap : Nat} {t : List Int} (ht : IntsAt w ao t) (hm : t.length ≤ 2000) (p0 : Nat) (hp0 : p0 ≤ t.length) :
    Calls Try.prog 46 #[rv, .slice ao t.length cap, .int .i64 (p0 : Int)] w fun e w' => e = .returned (.int .i64 (endN L t p0)) ∧ w' = w := by
  have ha := h.2.2.1
  go_enter Try.func46, Try.ntmps46
  go_wp2
  go_loop [7, 8] (fun la at' => ∃ p k : Nat, p0 ≤ p ∧ p ≤ t.length ∧ at' = .int .i64 (p : Int) ∧ la = .int .i64 (k : Int) ∧ k ≤ 1 + 6 * (p - p0) ∧ Hid (endO L t p0 = (scan L k (t.drop p)).map (p + ·))) (fun _ at' => t.length - (intOf at').toNat)
  case atStart => exact ⟨p0, 1, Nat.le_refl _, hp0, rfl, rfl, by omega, rfl⟩
  case round =>
    obtain ⟨p, k, h1, h2, rfl, rfl, h3, h4⟩ := hrel
    by_cases hlt : p < t.length
    · cases k with
      | zero =>
        have H6 : Hid (endN L t p0 = p) := by
          have := h4.out
          simp [scan_zero] at this
          show _ = _
          simp [endN, this]
        go_wp2
        go_ret
        exact ⟨by rw [H6.out]; rfl, rfl⟩
      | succ k =>
        obtain ⟨tb, off, rfl, htb, hc⟩ := ht.get hlt
        have c := rarity_any h t[p]
        have hle := arN_le ha t[p]
        have H5 : Hid (endO L t p0 = (scan L (k + arN L t[p]) (t.drop (p + 1))).map (p + 1 + ·)) := endO_round h4.out hlt
        have i1 : (0 : Int) ≤ (p : Int) := by omega
        have i2 : (p : Int) < (t.length : Int) := by omega
        clear h4
        generalize arN L t[p] = a at *
        go_wp2_with (first | (go_at_call 32; refine c.mono ?_; rintro e w' ⟨rfl, rfl⟩))
        refine ⟨⟨p + 1, k + a, by omega, by omega, by go_num, by first | (congr 1; omega) | congr 1, by omega, H5⟩, by simp [intOf]; omega⟩
    · have H6 : Hid (endN L t p0 = p) := by
        have h4 := h4.out
        rw [List.drop_eq_nil_of_le (by omega)] at h4
        show _ = _
        cases k with
        | zero => simp [scan] at h4; simp [endN, h4]
        | succ k => simp [scan] at h4; simp [endN, h4]; omega
      go_wp2
      go_ret
      exact ⟨by rw [H6.out]; rfl, rfl⟩
theorem need_take {L : List Sym} {t : List Int} {p k : Nat} (h : need L 1 (t.take p) = some k) (hp : p < t.length) : (k = 0 → ¬ need L 1 t = some 0) ∧ (∀ j, k = j + 1 → need L 1 (t.take (p + 1)) = some (j + arN L t[p])) := by
  have e : t = t.take p ++ (t[p] :: t.drop (p + 1)) := by rw [← List.drop_eq_getElem_cons hp, List.take_append_drop]
  constructor
  · rintro rfl hn
    rw [e, need_append, h, Option.bind_some, need] at hn
    cases hn
  · rintro j rfl
    rw [List.take_add_one, need_append, h, List.getElem?_eq_getElem hp]
    simp [need]
theorem checkE_shape {L : List Sym} {t : List Int} (h : ¬ 2000 < t.length) (hb : badE L t = 0) : checkE L t = if need L 1 t = some 0 then 0 else 23 := by
  simp [checkE, h, hb]
set_option maxHeartbeats 4000000 in
theorem rcheck_any {n : Nat} {w : World} {rv : Value} {L : List Sym} (h : Rl n w rv L) {ao : Option Addr} {cap : Nat} {t : List Int} (ht : IntsAt w ao t) (hm : t.length ≤ maxLen) :
    Calls Try.prog 20 #[rv, .slice ao t.length cap] w fun e w' => e = .returned (.int .i64 (checkE L t)) ∧ w' = w := by
  unfold maxLen at hm
  have ha := h.2.2.1
  have hL64 := h.2.2.2
  obtain ⟨ro, rcap, rfl⟩ := row_shape h.1
  by_cases hl : 2000 < t.length
  · have H : Hid (checkE L t = 20) := checkE_long hl
    go_enter Try.func20, Try.ntmps20
    go_wp2
    go_ret
    exact ⟨ret_int H.out.symm, rfl⟩
  · have hl' : t.length ≤ 2000 := by omega
    go_enter Try.func20, Try.ntmps20
    go_wp2
    go_loop [5] (fun i => ∃ p : Nat, p ≤ t.length ∧ i = .int .i64 (p : Int) ∧ Hid (badE L (t.take p) = 0)) (fun i => t.length - (intOf i).toNat)
    case atStart => exact ⟨0, Nat.zero_le _, rfl, by simp [badE, Hid]⟩
    case round =>
      obtain ⟨p, h1, rfl, h2⟩ := hrel
      by_cases hlt : p < t.length
      · obtain ⟨tb, off, rfl, htb, hc⟩ := ht.get hlt
        have i1 : (0 : Int) ≤ (p : Int) := by omega
        have i2 : (p : Int) < (t.length : Int) := by omega
        obtain ⟨s1, s2⟩ := badE_step hlt h2.out
        by_cases q1 : (L.length : Int) ≤ t[p]
        · have e0 : numE L t[p] = 21 := by simp [numE, q1]
          have H : Hid (checkE L t = 21) := by
            show _ = _
            have := s1 (by omega)
            rw [checkE_bad hl (by omega)]; omega
          clear s1 s2 h2 e0
          go_wp2
          go_ret
          exact ⟨ret_int H.out.symm, rfl⟩
        · by_cases q2 : t[p] < -99
          · have e0 : numE L t[p] = 22 := by simp [numE, q1, q2]
            have H : Hid (checkE L t = 22) := by
              show _ = _
              have := s1 (by omega)
              rw [checkE_bad hl (by omega)]; omega
            clear s1 s2 h2 e0
            go_wp2
            go_ret
            exact ⟨ret_int H.out.symm, rfl⟩
          · have e0 : numE L t[p] = 0 := by simp [numE, q1, q2]
            have S2 : Hid (badE L (t.take (p + 1)) = 0) := s2 e0
            clear s1 s2 h2 e0
            go_wp2
            exact ⟨⟨p + 1, by omega, by go_num, S2⟩, by simp [intOf]; omega⟩
      · obtain rfl : p = t.length := by omega
        have hb := h2.out
        rw [List.take_length] at hb
        have HC : Hid (checkE L t = if need L 1 t = some 0 then 0 else 23) := checkE_shape hl hb
        clear h2 hb
        go_wp2
        go_loop [6, 7] (fun la i => ∃ p k : Nat, p ≤ t.length ∧ i = .int .i64 (p : Int) ∧ la = .int .i64 (k : Int) ∧ k ≤ 1 + 6 * p ∧ Hid (need L 1 (t.take p) = some k)) (fun _ i => t.length - (intOf i).toNat)
        case atStart => exact ⟨0, 1, Nat.zero_le _, rfl, rfl, by omega, by simp [need, Hid]⟩
        case round =>
          obtain ⟨p, k, g1, rfl, rfl, g2, g3⟩ := hrel
          by_cases hlt2 : p < t.length
          · obtain ⟨tb, off, rfl, htb, hc⟩ := ht.get hlt2
            have i1 : (0 : Int) ≤ (p : Int) := by omega
            have i2 : (p : Int) < (t.length : Int) := by omega
            obtain ⟨s1, s2⟩ := need_take g3.out hlt2
            cases k with
            | zero =>
              have H : Hid (checkE L t = 23) := by show _ = _; rw [HC.out, if_neg (s1 rfl)]
              clear s1 s2 g3 HC
              go_wp2
              go_ret
              exact ⟨ret_int H.out.symm, rfl⟩
            | succ k =>
              have S2 : Hid (need L 1 (t.take (p + 1)) = some (k + arN L t[p])) := s2 k rfl
              have c := rarity_any h t[p]
              have hle := arN_le ha t[p]
              clear s1 s2 g3 HC
              generalize arN L t[p] = a at *
              go_wp2_with (first | (go_at_call 32; refine c.mono ?_; rintro e w' ⟨rfl, rfl⟩))
              refine ⟨⟨p + 1, k + a, by omega, by go_num, by first | (congr 1; omega) | congr 1, by omega, S2⟩, by simp [intOf]; omega⟩
          · obtain rfl : p = t.length := by omega
            have g4 := g3.out
            rw [List.take_length] at g4
            by_cases hk0 : k = 0
            · subst hk0
              have H : Hid (checkE L t = 0) := by show _ = _; rw [HC.out, if_pos g4]
              clear g3 g4 HC
              go_wp2
              go_ret
              exact ⟨ret_int H.out.symm, rfl⟩
            · have H : Hid (checkE L t = 23) := by show _ = _; rw [HC.out, if_neg (by rw [g4]; simp; exact hk0)]
              clear g3 g4 HC
              go_wp2
              go_ret
              exact ⟨ret_int H.out.symm, rfl⟩
/-- append of one number to a row of the call's own. -/
theorem wpList_push {w0 : World} {ops : Array Oper} {rest : List Oper} {o : Oper} {a : Act} {Q : Exit → Act → World → Prop} (hgd : o.guard = none) (s x : Operand) (t : TypeId)
    (ho : o.op = .call { callee := .builtin .append, args := #[s, x], argTypes := #[t, t] }) (ht : Try.prog.underlying t = some (.slice 3))
    (base : Nat) (xs : List Int) (v : Value) (hs : a.eval s = v) (hr : Row base w0 v xs) (y : Int) (hx : a.eval x = .slice (some ⟨w0.heap.size, 0, none⟩) 1 1) (hb : base ≤ w0.heap.size) (hsz : (xs.length + 1) * 8 ≤ 140737488355328)
    (h : ∀ g cap w', Row base w' (.slice (some ⟨g, 0, none⟩) (xs.length + 1) cap) (xs ++ [y]) → Kept (fun k => v.ownBlock = some k) w0 w' → (v.ownBlock = some g ∨ w0.heap.size ≤ g) → wpList Try.prog ops Q rest (a.put o.dst (.slice (some ⟨g, 0, none⟩) (xs.length + 1) cap)) w') :
    wpList Try.prog ops Q (o :: rest) a (w0.alloc (.cells #[.int .i64 y] 3)) := by
  obtain ⟨i, hi, hz0, hz1, hz2⟩ := info_parts info_intT
  refine wpList_append_lies _ hgd s x t ho base 3 i (.int .i64 0) 1 8 ht hi hz0 hz1 hz2 rfl (by decide) v xs.length (iv xs) hs (hr.alloc _) ⟨w0.heap.size, 0, none⟩ 1 1 [.int .i64 y] hx rfl (cell_one_new _ _ _) (by simp [Value.oneCell']) (by omega) (by unfold maxLen; omega) hsz (by simp; omega) (w0.heap.size + 1) (by simp) ?_
  intro g cap w' hown hgrow hat hlt
  refine h g cap w' ?_ ?_ (hat.imp id (fun e => by omega))
  · unfold Row; rw [iv_append, List.length_append]; exact hown
  · exact Kept.grown (Kept.alloc (Kept.refl _ w0) _) hgrow (fun _ e _ => e)
theorem Same0.onto {w w0 w' : World} {v : Value} {xs : List Int} (h : Same0 w w0) (hr : Row w.heap.size w0 v xs) (hk : Kept (fun k => v.ownBlock = some k) w0 w') : Same0 w w' :=
  h.trans hk (fun i hi e => by have := (hr.lt i e).1; omega)
set_option maxHeartbeats 4000000 in
theorem rargs_any {n : Nat} {w : World} {rv : Value} {L : List Sym} (h : Rl n w rv L) {ao : Option Addr} {cap : Nat} {t : List Int} (ht : IntsAt w ao t) (hm : t.length ≤ 2000) (hT : IsT L t) (p : Nat) (hp : p < t.length) :
    Calls Try.prog 58 #[rv, .slice ao t.length cap, .int .i64 (p : Int)] w fun e w' => ∃ v, e = .returned v ∧ Row w.heap.size w' v (ofN (argsN L t p)) ∧ Same0 w w' := by
  have H : Hid (argsN L t p = starts L t (arN L t[p]) (p + 1)) := argsN_eq hp
  have hf := (Forest.one hT hp).kids.2
  have har := arN_le h.2.2.1 t[p]
  have c1 : ∀ w1, Same0 w w1 → Calls Try.prog 32 #[rv, .int .i64 t[p]] w1 fun e w' => e = .returned (.int .i64 (arN L t[p] : Int)) ∧ w' = w1 := fun w1 hk => rarity_any (h.same hk) t[p]
  have c2 : ∀ w1 q, Same0 w w1 → q < t.length → Calls Try.prog 46 #[rv, .slice ao t.length cap, .int .i64 (q : Int)] w1 fun e w' => e = .returned (.int .i64 (endN L t q : Int)) ∧ w' = w1 := fun w1 q hk hq => rend_any (cap := cap) (h.same hk) (ht.same hk) hm q (by omega)
  have i1 : (0 : Int) ≤ (p : Int) := by omega
  have i2 : (p : Int) < (t.length : Int) := by omega
  have i0 : ¬ (p : Int) < 0 := by omega
  have i0' : decide ((p : Int) < 0) = false := by simp
  obtain ⟨ro, rcap, rfl⟩ := row_shape h.1
  obtain ⟨tb, off, rfl, htb, hc⟩ := ht.get hp
  have hc' : ∀ w1, Same0 w w1 → w1.cell? ⟨tb, off + p, none⟩ = some (.int .i64 t[p]) := fun w1 hk => (hk.cell (p := ⟨tb, off + p, none⟩) htb (fun f => f)).trans hc
  generalize hA : arN L t[p] = A at *
  have hA : Hid (arN L t[p] = A) := hA
  go_enter Try.func58, Try.ntmps58
  go_wp2
  go_loopw [7, 8, 9] (fun out nx i wr => ∃ k : Nat, k ≤ A ∧ i = .int .i64 (k : Int) ∧ nx = .int .i64 (past L t k (p + 1) : Int) ∧ Row w.heap.size wr out (ofN (starts L t k (p + 1))) ∧ Same0 w wr) (fun _ _ i _ => A - (intOf i).toNat)
  case atStart => exact ⟨0, Nat.zero_le _, rfl, rfl, World.ownsRow_nil _ _ _ _, Kept.refl _ _⟩
  case round =>
    obtain ⟨k, hkA, rfl, rfl, hr, hs⟩ := hrel
    have d0 := hc' _ hs
    have cA := c1 _ hs
    by_cases hlt : k < A
    · have hfk := hf.drop (i := k) (by omega)
      rw [show A - k = (A - k - 1) + 1 by omega] at hfk
      have hq : past L t k (p + 1) < t.length := by have := hfk.pos; have := hfk.le; omega
      have e1 : Hid (past L t (k + 1) (p + 1) = endN L t (past L t k (p + 1))) := past_succ L t k (p + 1)
      have e2 : Hid (ofN (starts L t (k + 1) (p + 1)) = ofN (starts L t k (p + 1)) ++ [((past L t k (p + 1) : Nat) : Int)]) := by show _ = _; rw [starts_snoc]; simp [ofN]
      have hlen : (ofN (starts L t k (p + 1))).length = k := by simp [ofN, starts_length]
      have hlt' : ¬ A ≤ k := by omega
      clear hfk c1 hc'
      generalize past L t k (p + 1) = P at *
      generalize ofN (starts L t k (p + 1)) = out at *
      subst hlen
      obtain ⟨oo, ocap, rfl⟩ := row_shape hr
      go_wp2_with (first | (go_at_call 32; refine cA.mono ?_; rintro e w' ⟨rfl, rfl⟩) | (at_builtin; refine wpList_push rfl _ _ 24 rfl Try.underlying24 w.heap.size out _ rfl hr (P : Int) rfl hs.size (by omega) ?_; intro g gcap w4 hr4 hk4 _; have hs4 := hs.onto hr hk4) | (go_at_call 46; refine (c2 _ _ hs4 hq).mono ?_; rintro e w' ⟨rfl, rfl⟩))
      rw [← e2.out] at hr4
      go_roundw
      case rel => first | exact ⟨out.length + 1, by omega, by go_num, by rw [e1.out], hr4, hs4⟩ | ((repeat apply Exists.intro); exact ⟨⟨out.length + 1, by omega, by go_num, by rw [e1.out], hr4, hs4⟩, rfl⟩)
      case measure => simp [intOf]; omega
    · obtain rfl : k = A := by omega
      obtain ⟨oo, ocap, rfl⟩ := row_shape hr
      clear c1 c2 hc'
      go_wp2_with (first | (go_at_call 32; refine cA.mono ?_; rintro e w' ⟨rfl, rfl⟩))
      go_ret
      refine ⟨_, rfl, ?_, hs⟩
      rw [H.out]; exact hr
end Go.Proofs.Ythhcnllabhfejaa
