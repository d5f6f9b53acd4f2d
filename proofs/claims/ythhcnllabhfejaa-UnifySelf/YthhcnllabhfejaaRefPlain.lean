/- The walk of the document's Plain. -/
import Derived.Test.YthhcnllabhfejaaPlainW
import Derived.Test.YthhcnllabhfejaaRefPut
import Derived.Test.YthhcnllabhfejaaRefPath
import Derived.Laws.AppendOwnNone
namespace Go.Proofs.Ythhcnllabhfejaa
set_option linter.unusedVariables false
open Go.RowKit
attribute [local go_sem ↓] Go.wp_at_zero Go.wp_at_succ
def negs (t : List Int) : List Int := (varsL t).map (fun v => -v)
theorem allV_snoc {ls : List (List Int)} {i : Nat} (hi : i < ls.length) : allV (ls.take (i + 1)) = allV (ls.take i) ++ negs ls[i] := by
  unfold allV
  rw [take_one hi, List.map_append, List.flatten_append]
  simp [negs]
theorem allV_le {ls : List (List Int)} (hn : ls.length ≤ 1048576) (h : ∀ t ∈ ls, t.length ≤ 1048576) (i : Nat) : (allV (ls.take i)).length ≤ 1100000000000 := by
  have h1 := flat_le (ls := (ls.take i).map negs) (B := 1048576) (fun t ht => by
    obtain ⟨x, hx, rfl⟩ := List.mem_map.1 ht
    have h1 := vs_len [] x
    have h2 := h x (List.mem_of_mem_take hx)
    simp [negs, varsL] at h1 ⊢; omega)
  have e : allV (ls.take i) = ((ls.take i).map negs).flatten := rfl
  rw [e]
  have h2 : ((ls.take i).map negs).length ≤ 1048576 := by simp; omega
  have h3 : ((ls.take i).map negs).length * 1048576 ≤ 1048576 * 1048576 := Nat.mul_le_mul_right _ h2
  omega
/-- Lists told: their blocks lie from base on. -/
def OutAt (base : Nat) (w : World) (ov : Value) (xss : List (List Int)) : Prop := ∃ cs, w.ownsRow base 25 1 ov xss.length cs ∧ ∀ j (h : j < xss.length), ∃ v, cs[j]? = some v ∧ Row base w v xss[j] ∧ ∀ k, v.ownBlock = some k → ov.ownBlock ≠ some k
theorem OutAt.same {base : Nat} {w w' : World} {ov : Value} {xss : List (List Int)} (h : OutAt base w ov xss) (k : Same0 w w') : OutAt base w' ov xss := by
  obtain ⟨cs, h1, h2⟩ := h
  refine ⟨cs, Kept.row k h1 (fun _ _ f => f), fun j hj => ?_⟩
  obtain ⟨v, g1, g2, g3⟩ := h2 j hj
  exact ⟨v, g1, Kept.row k g2 (fun _ _ f => f), g3⟩
theorem OutAt.nil (base : Nat) (w : World) : OutAt base w (.slice none 0 0) [] := ⟨[], World.ownsRow_nil _ _ _ _, fun j hj => by simp at hj⟩
theorem OutAt.keep {base : Nat} {w w' : World} {ov : Value} {xss : List (List Int)} {S : Nat → Prop} (h : OutAt base w ov xss) (k : Kept S w w') (hn : ∀ k, base ≤ k → ¬ S k) : OutAt base w' ov xss := by
  obtain ⟨cs, h1, h2⟩ := h
  refine ⟨cs, k.row h1 (fun k e => hn k (h1.lt k e).1), fun j hj => ?_⟩
  obtain ⟨v, g1, g2, g3⟩ := h2 j hj
  exact ⟨v, g1, k.row g2 (fun k e => hn k (g2.lt k e).1), g3⟩
theorem OutAt.put {base : Nat} {w0 w1 : World} {ov v : Value} {xss : List (List Int)} {t : List Int} {g cap : Nat} {cs : List Value} (h1 : w0.ownsRow base 25 1 ov xss.length cs) (h2 : ∀ j (h : j < xss.length), ∃ v, cs[j]? = some v ∧ Row base w0 v xss[j] ∧ ∀ k, v.ownBlock = some k → ov.ownBlock ≠ some k) (hr : Row base w0 v t) (hv : ∀ k, v.ownBlock = some k → ov.ownBlock ≠ some k)
    (hown : w1.ownsRow base 25 1 (.slice (some ⟨g, 0, none⟩) (xss.length + 1) cap) (xss.length + 1) (cs ++ [v])) (hk : Kept (fun k => ov.ownBlock = some k) w0 w1) (hat : ov.ownBlock = some g ∨ w0.heap.size ≤ g) : OutAt base w1 (.slice (some ⟨g, 0, none⟩) (xss.length + 1) cap) (xss ++ [t]) := by
  have hl : cs.length = xss.length := by have := h1.1; omega
  have new : ∀ u : Value, (∀ k, u.ownBlock = some k → ov.ownBlock ≠ some k) → (∀ k, u.ownBlock = some k → k < w0.heap.size) → ∀ k, u.ownBlock = some k → Value.ownBlock (.slice (some ⟨g, 0, none⟩) (xss.length + 1) cap) ≠ some k := by
    intro u a1 a2 k e e'
    simp only [Value.ownBlock, Option.some.injEq] at e'
    subst e'
    rcases hat with e2 | e2
    · exact a1 g e e2
    · have := a2 g e; omega
  refine ⟨cs ++ [v], by simpa using hown, fun j hj => ?_⟩
  by_cases e : j = xss.length
  · subst e
    refine ⟨v, by rw [List.getElem?_append_right (by omega)]; simp [hl], ?_, new v hv (fun k e => (hr.lt k e).2)⟩
    simpa using hk.row hr (fun k e e' => hv k e e')
  · have hj' : j < xss.length := by simp at hj; omega
    obtain ⟨u, g1, g2, g3⟩ := h2 j hj'
    refine ⟨u, by rw [List.getElem?_append_left (by omega)]; exact g1, ?_, new u g3 (fun k e => (g2.lt k e).2)⟩
    rw [List.getElem_append_left hj']
    exact hk.row g2 (fun k e e' => g3 k e e')
/-- The order, in plain words, at the inmost loop. -/
theorem order_hit {ls : List (List Int)} {x : Int} {m : Nat} (hm : m < (orderL ls).length) : (x = -((orderL ls)[m])) ↔ (isV x = true ∧ (orderL ls).idxOf (-x) = m) := by
  have hN := neat_vs neat_nil ls.flatten
  have hN' : Neat (orderL ls) := hN
  constructor
  · intro e
    have h1 := hN'.2 _ (List.getElem_mem hm)
    have e2 : -x = (orderL ls)[m] := by omega
    exact ⟨isV_iff.2 (by omega), by rw [e2]; exact idx_of hN'.1 hm⟩
  · rintro ⟨h1, h2⟩
    have h3 : (orderL ls).idxOf (-x) < (orderL ls).length := by omega
    have h4 := List.getElem_idxOf h3
    have : (orderL ls)[m] = -x := by
      have e5 : (orderL ls)[m] = (orderL ls)[(orderL ls).idxOf (-x)] := by congr 1; exact h2.symm
      rw [e5]; exact h4
    omega
/-- The number at a place, when m of the order were looked at. -/
def halfN (O : List Int) (x : Int) (m : Nat) : Int := if isV x = true ∧ O.idxOf (-x) < m then -((O.idxOf (-x) : Int) + 1) else x
theorem half_zero (O : List Int) (x : Int) : halfN O x 0 = x := by simp [halfN]
theorem half_hit {ls : List (List Int)} {x : Int} {m : Nat} (hm : m < (orderL ls).length) (h : x = -((orderL ls)[m])) : halfN (orderL ls) x (m + 1) = -((m : Int) + 1) := by
  obtain ⟨h1, h2⟩ := (order_hit hm).1 h
  rw [halfN, if_pos ⟨h1, by omega⟩, h2]
theorem half_miss {ls : List (List Int)} {x : Int} {m : Nat} (hm : m < (orderL ls).length) (h : ¬ x = -((orderL ls)[m])) : halfN (orderL ls) x (m + 1) = halfN (orderL ls) x m := by
  have h' := fun a => h ((order_hit hm).2 a)
  unfold halfN
  by_cases hv : isV x = true
  · have : (orderL ls).idxOf (-x) ≠ m := fun e => h' ⟨hv, e⟩
    by_cases c : (orderL ls).idxOf (-x) < m
    · rw [if_pos ⟨hv, by omega⟩, if_pos ⟨hv, c⟩]
    · rw [if_neg (by omega), if_neg (by omega)]
  · rw [if_neg (by simp [hv]), if_neg (by simp [hv])]
theorem half_end {ls : List (List Int)} {x : Int} {t : List Int} (ht : t ∈ ls) (hx : x ∈ t) : halfN (orderL ls) x (orderL ls).length = Proofs.Ythhcnllabhfejaa.pl (orderL ls) x := by
  unfold halfN Proofs.Ythhcnllabhfejaa.pl
  by_cases hv : isV x = true
  · have : -x ∈ orderL ls := vs_mem (List.mem_flatten.2 ⟨t, ht, hx⟩) hv
    rw [if_pos ⟨hv, List.idxOf_lt_length_of_mem this⟩, if_pos hv]
  · rw [if_neg (by simp [hv]), if_neg hv]
/-- append of numbers, nil or not, to a row of the call's own. -/
theorem wpList_more' {w0 : World} {ops : Array Oper} {rest : List Oper} {o : Oper} {a : Act} {Q : Exit → Act → World → Prop} (hgd : o.guard = none) (s x : Operand) (t : TypeId)
    (ho : o.op = .call { callee := .builtin .append, args := #[s, x], argTypes := #[t, t] }) (ht : Try.prog.underlying t = some (.slice 3))
    (base : Nat) (xs : List Int) (v : Value) (hs : a.eval s = v) (hr : Row base w0 v xs) (ys : List Int) (ao : Option Addr) (m c : Nat) (hx : a.eval x = .slice ao m c) (hm : m = ys.length) (hy : IntsAt w0 ao ys) (hnil : ao = none → ys.length = 0 ∧ c = 0) (hb : base ≤ w0.heap.size) (hsz : (xs.length + ys.length) * 8 ≤ 140737488355328)
    (h : ∀ v' w', Row base w' v' (xs ++ ys) → Kept (fun k => v.ownBlock = some k) w0 w' → wpList Try.prog ops Q rest (a.put o.dst v') w') :
    wpList Try.prog ops Q (o :: rest) a w0 := by
  cases ao with
  | none =>
    obtain ⟨h1, rfl⟩ := hnil rfl
    have : ys = [] := List.eq_nil_of_length_eq_zero h1
    subst this
    subst hm
    obtain ⟨i, hi, hz0, hz1, hz2⟩ := info_parts info_intT
    exact wpList_append_own_none hgd s x t ho base 3 i 1 ht hi v xs.length (iv xs) hs hr hx (h v w0 (by simpa using hr) (Kept.refl _ _))
  | some ad => exact wpList_more hgd s x t ho ht base xs v hs hr ys ad m c hx hm hy hb hsz h
set_option maxRecDepth 8000 in
set_option maxHeartbeats 8000000 in
theorem rplain_any {w : World} {lo : Option Addr} {lcap : Nat} {ls : List (List Int)} (hl : Lists w lo ls) (hn : ls.length ≤ 1048576) (hb : ∀ t ∈ ls, t.length ≤ 1048576) :
    Calls Try.prog 19 #[.slice lo ls.length lcap] w fun e w' => ∃ v, e = .returned v ∧ OutAt w.heap.size w' v (plains ls) ∧ Same0 w w' := by
  have HB : Hid (∀ t ∈ ls, t.length ≤ 1048576) := hb
  have HAL : Hid (∀ i, (allV (ls.take i)).length ≤ 1100000000000) := fun i => allV_le hn hb i
  clear hb
  go_enter Try.func19, Try.ntmps19
  go_wp2
  go_loopw [3, 4] (fun av iv' wr => ∃ i : Nat, i ≤ ls.length ∧ iv' = .int .i64 (i : Int) ∧ Row w.heap.size wr av (allV (ls.take i)) ∧ Same0 w wr) (fun _ iv' _ => ls.length - (intOf iv').toNat)
  case atStart => exact ⟨0, Nat.zero_le _, rfl, World.ownsRow_nil _ _ _ _, Kept.refl _ _⟩
  case round =>
    obtain ⟨i, hile, rfl, hr, hs⟩ := hrel
    obtain ⟨avo, avc, rfl⟩ := row_shape hr
    by_cases hlt : i < ls.length
    · obtain ⟨lb, loff, ao, cap, rfl, hlb, hlc, hia, hnil⟩ := (hl.same hs).get hlt
      have hti := HB.out ls[i] (List.getElem_mem hlt)
      have cV := rvars_any (cap := cap) hia (by omega)
      have E : Hid (allV (ls.take (i + 1)) = allV (ls.take i) ++ negs ls[i]) := allV_snoc hlt
      have hal := HAL.out i
      have hal1 := HAL.out (i + 1)
      rw [E.out, List.length_append] at hal1
      have HNT : Hid (Neat (varsL ls[i])) := neat_vs neat_nil ls[i]
      have hngl : (negs ls[i]).length = (varsL ls[i]).length := by simp [negs]
      have HNG : Hid (∀ k (hk : k < (varsL ls[i]).length), (negs ls[i]).take (k + 1) = (negs ls[i]).take k ++ [-((varsL ls[i])[k])]) := fun k hk => by
        rw [take_one (by rw [hngl]; exact hk)]; simp [negs]
      have i1 : (0 : Int) ≤ (i : Int) := by omega
      have i2 : (i : Int) < (ls.length : Int) := by omega
      clear hia hnil
      go_wp2_with fail
      refine cV.mono ?_
      rintro e w2 ⟨vv, rfl, rvv, k2⟩
      obtain ⟨vo, vcap, rfl, ivv, _, hvb⟩ := rvv.ints
      have S0 : Sought w w2 (.slice avo (allV (ls.take i)).length avc) vo (varsL ls[i]) (allV (ls.take i)) := by
        refine ⟨Kept.row k2 hr (fun _ _ f => f), ivv, ?_, fun a e => (hvb a e).2, hs.trans' k2⟩
        intro a e e'
        have := (hr.lt _ e').2
        have := (hvb a e).1
        omega
      clear cV rvv ivv hvb hr k2
      generalize hAI : allV (ls.take i) = AI at *
      generalize hVI : varsL ls[i] = VI at *
      generalize hNI : negs ls[i] = NI at *
      go_wp2
      obtain ⟨wo, rfl⟩ : ∃ wo : World, wo = wr := ⟨_, rfl⟩
      go_loopw [3, 6] (fun av kv wr => ∃ k : Nat, k ≤ VI.length ∧ kv = .int .i64 (k : Int) ∧ Sought w wr av vo VI (AI ++ NI.take k)) (fun _ kv _ => VI.length - (intOf kv).toNat)
      case atStart => exact ⟨0, Nat.zero_le _, rfl, by simpa using S0⟩
      case round =>
        clear S0
        obtain ⟨k, hkle, rfl, hS⟩ := hrel
        obtain ⟨bvo, bvc, rfl⟩ := row_shape hS.row
        by_cases hkl : k < VI.length
        · obtain ⟨vb, voff, rfl, _, hvc⟩ := hS.at'.get hkl
          have hnt := HNT.out.2 VI[k] (List.getElem_mem hkl)
          have E2 := HNG.out k hkl
          have hrow := hS.row
          have hss := hS.s.size
          have hll : (AI ++ NI.take k).length ≤ 1100000000000 := by simp; omega
          have hb8 : ((AI ++ NI.take k).length + 1) * 8 ≤ 140737488355328 := by omega
          have E3 : Hid (AI ++ NI.take (k + 1) = (AI ++ NI.take k) ++ [-VI[k]]) := by show _ = _; rw [E2, List.append_assoc]
          have m0 : (0 : Int) ≤ (k : Int) := by omega
          have m1 : (k : Int) < (VI.length : Int) := by omega
          clear E2
          generalize hZZ : AI ++ NI.take k = ZZ at *
          generalize VI[k] = x at *
          go_wp2_with (first | (at_builtin; refine wpList_push rfl _ _ 25 rfl Try.underlying25 w.heap.size ZZ (.slice bvo ZZ.length bvc) rfl hrow (-x) rfl hss hb8 ?_; intro g gcap w4 hr4 hk4 hat4; have hS4 := hS.push hr4 hk4 hat4))
          rw [← E3.out] at hS4
          go_roundw
          case rel => first | exact ⟨k + 1, by omega, by go_num, hS4⟩ | ((repeat apply Exists.intro); exact ⟨⟨k + 1, by omega, by go_num, hS4⟩, rfl⟩)
          case measure => simp [intOf]; omega
        · have hrw := hS.row
          have hss := hS.s
          have e0 : NI.take k = NI := List.take_of_length_le (by omega)
          rw [e0] at hrw ⊢
          have E4 := E.out
          rw [← E4] at hrw ⊢
          clear hS e0 E4
          go_wp2
          go_roundw
          case rel => first | exact ⟨i + 1, by omega, by go_num, hrw, hss⟩ | ((repeat apply Exists.intro); exact ⟨⟨i + 1, by omega, by go_num, hrw, hss⟩, rfl⟩)
          case measure => simp [intOf]; omega
    · obtain rfl : i = ls.length := by omega
      rw [List.take_length] at hr ⊢
      have hal := HAL.out ls.length
      rw [List.take_length] at hal
      obtain ⟨avo', avc', hvv, iav, _, _⟩ := hr.ints
      simp only [Value.slice.injEq, true_and] at hvv
      obtain ⟨rfl, rfl⟩ := hvv
      have cO := rvars_any (cap := avc) iav (by omega)
      rw [order_all] at cO
      clear iav hr HAL
      go_wp2_with fail
      refine cO.mono ?_
      rintro e w5 ⟨ov, rfl, rO, k5⟩
      obtain ⟨oo, ocap, rfl, iO, _, _⟩ := rO.ints
      have hs5 := hs.trans' k5
      clear cO rO k5
      obtain ⟨O, hO⟩ : ∃ O, O = orderL ls := ⟨_, rfl⟩
      have HO : Hid (O = orderL ls) := hO
      have hOl : O.length ≤ 1100000000000 := by
        have h1 := vs_len [] ls.flatten
        have h2 := flat_le (ls := ls) (B := 1048576) HB.out
        have h3 : ls.length * 1048576 ≤ 1048576 * 1048576 := Nat.mul_le_mul_right _ hn
        rw [hO]; unfold orderL; simp only [List.length_nil, Nat.zero_add] at h1; omega
      rw [← hO] at iO ⊢
      clear hO
      go_wp2
      go_loopw [8, 9] (fun ov iv' wr => ∃ i : Nat, i ≤ ls.length ∧ iv' = .int .i64 (i : Int) ∧ OutAt w5.heap.size wr ov ((plains ls).take i) ∧ Same0 w5 wr) (fun _ iv' _ => ls.length - (intOf iv').toNat)
      case atStart => exact ⟨0, Nat.zero_le _, rfl, by simpa using OutAt.nil _ _, Kept.refl _ _⟩
      case round =>
        rename World => wold
        obtain ⟨i, hile, rfl, hOA, hs6⟩ := hrel
        rename World => wr0
        have hs06 := hs5.trans' hs6
        by_cases hlt2 : i < ls.length
        · obtain ⟨lb, loff, ao, cap, rfl, hlb, hlc, hia, hnil⟩ := (hl.same hs06).get hlt2
          have hti := HB.out ls[i] (List.getElem_mem hlt2)
          have hdl : ((plains ls).take i).length = i := by rw [List.length_take, plains_length]; omega
          have hur : ∃ uo ucap, u8 = .slice uo i ucap := by
            obtain ⟨cs, h1, _⟩ := hOA
            rw [hdl] at h1
            exact row_shape h1
          obtain ⟨uo, ucap, rfl⟩ := hur
          have HGET : Hid ((plains ls).take (i + 1) = (plains ls).take i ++ [curL O ls[i] ls[i].length]) := by rw [HO.out]; exact plains_get hlt2
          have HEND : Hid (∀ x ∈ ls[i], halfN O x O.length = pl O x) := fun x hx => by rw [HO.out]; exact half_end (List.getElem_mem hlt2) hx
          have HHIT : Hid (∀ x m (hm : m < O.length), x = -(O[m]) → halfN O x (m + 1) = -((m : Int) + 1)) := by rw [HO.out]; exact fun x m hm h => half_hit hm h
          have HMISS : Hid (∀ x m (hm : m < O.length), ¬ x = -(O[m]) → halfN O x (m + 1) = halfN O x m) := by rw [HO.out]; exact fun x m hm h => half_miss hm h
          have k0 : Same0 wr0 (wr0.alloc (.cells #[] 3)) := (Kept.refl _ _).alloc _
          have r0 : Row wr0.heap.size (wr0.alloc (.cells #[] 3)) (.slice (some ⟨wr0.heap.size, 0, none⟩) 0 0) [] := row_empty wr0 _ (Nat.le_refl _) rfl
          have ia0 := hia.same k0
          have z0 := k0.size
          have i1 : (0 : Int) ≤ (i : Int) := by omega
          have i2 : (i : Int) < (ls.length : Int) := by omega
          generalize (plains ls).take i = done at *
          generalize hT : ls[i] = t at *
          go_upto_region 16 with (first | (at_builtin; refine wpList_more' rfl (.tmp 46) (.tmp 50) 25 rfl Try.underlying25 wr0.heap.size [] _ rfl r0 t _ _ _ rfl rfl ia0 hnil z0 (by simp; omega) ?_; intro v1 w1 hr1 hk1))
          rw [List.nil_append] at hr1
          have s1 := k0.onto r0 hk1
          obtain ⟨to', tcap, rfl⟩ := row_shape hr1
          rw [show t = curL O t 0 by rw [curL_zero]] at hr1
          rw [curL_length O t 0 (Nat.zero_le _)] at hr1
          have HNO : Hid (Neat O) := by rw [HO.out]; exact neat_vs neat_nil ls.flatten
          have HIO : Hid (∀ wr, Same0 wr0 wr → IntsAt wr oo O) := fun wr k => (iO.same hs6).same k
          have HIA : Hid (∀ wr, Same0 wr0 wr → IntsAt wr ao t ∧ wr.cell? ⟨lb, loff + i, none⟩ = some (.slice ao t.length cap)) := fun wr k => ⟨hia.same k, (k.cell (p := ⟨lb, loff + i, none⟩) hlb (fun f => f)).trans hlc⟩
          clear r0 ia0 hk1 z0 k0
          go_wp2
          go_loopw [11] (fun kv wr => ∃ k : Nat, k ≤ t.length ∧ kv = .int .i64 (k : Int) ∧ Row wr0.heap.size wr (.slice to' t.length tcap) (curL O t k) ∧ Same0 wr0 wr) (fun kv _ => t.length - (intOf kv).toNat)
          case atStart => exact ⟨0, Nat.zero_le _, rfl, by unfold Row; rw [curL_length O t 0 (Nat.zero_le _)]; exact hr1, s1⟩
          case round =>
            clear hr1 s1
            obtain ⟨k, hkle, rfl, hrk, hsk⟩ := hrel
            rename World => wk
            have cl := curL_length O t k hkle
            by_cases hkl : k < t.length
            · have CG := curL_get (O := O) hkl
              have CN : Hid ((curL O t k).set k (pl O t[k]) = curL O t (k + 1)) := curL_next hkl
              have C0 : Hid ((curL O t k).set k (halfN O t[k] 0) = curL O t k) := by show _ = _; rw [half_zero, ← CG]; exact List.set_getElem_self _
              have hend := HEND.out t[k] (List.getElem_mem hkl)
              have CE : Hid ((curL O t k).set k (halfN O t[k] O.length) = curL O t (k + 1)) := by show _ = _; rw [hend]; exact CN.out
              have R0 : Row wr0.heap.size wk (.slice to' t.length tcap) ((curL O t k).set k (halfN O t[k] 0)) := by rw [C0.out]; exact hrk
              have j1 : (0 : Int) ≤ (k : Int) := by omega
              have j2 : (k : Int) < (t.length : Int) := by omega
              clear hrk CG hend CN C0
              generalize hC : curL O t k = C at *
              go_wp2
              go_loopw [12] (fun nv wr => ∃ m : Nat, m ≤ O.length ∧ nv = .int .i64 (m : Int) ∧ Row wr0.heap.size wr (.slice to' t.length tcap) (C.set k (halfN O t[k] m)) ∧ Same0 wr0 wr) (fun nv _ => O.length - (intOf nv).toNat)
              case atStart => exact ⟨0, Nat.zero_le _, rfl, R0, hsk⟩
              case round =>
                clear R0
                obtain ⟨m, hmle, rfl, hrm, hsm⟩ := hrel
                rename World => wm
                by_cases hml : m < O.length
                · obtain ⟨ob, ooff, rfl, _, hoc⟩ := (HIO.out wm hsm).get hml
                  obtain ⟨hiam, hlcm⟩ := HIA.out wm hsm
                  obtain ⟨ab, aoff, rfl, _, hac⟩ := hiam.get hkl
                  have hno := HNO.out.2 O[m] (List.getElem_mem hml)
                  have hhit := HHIT.out t[k] m hml
                  have hmiss := HMISS.out t[k] m hml
                  have n1 : (0 : Int) ≤ (m : Int) := by omega
                  have n2 : (m : Int) < (O.length : Int) := by omega
                  have hl2 : ∀ y, (C.set k y).length = t.length := fun y => by rw [List.length_set]; exact cl
                  have hrm' := hrm
                  unfold Row at hrm'
                  rw [hl2] at hrm'
                  obtain ⟨tb, tc', hv', htb, htl⟩ := hrm'.form (by omega)
                  simp only [Value.slice.injEq, true_and] at hv'
                  obtain ⟨rfl, rfl⟩ := hv'
                  by_cases hq : t[k] = -O[m]
                  · have e1 := hhit hq
                    obtain ⟨old, y1, y2⟩ := row_put hrm' hkl
                    have hst := (hrm'.stored k (.int .i64 (-((m : Int) + 1)))).1
                    have e2 : (iv (C.set k (halfN O t[k] m))).set k (.int .i64 (-((m : Int) + 1))) = iv (C.set k (halfN O t[k] (m + 1))) := by
                      rw [e1]; simp [iv, List.map_set]
                    rw [e2] at hst
                    have hstR : Row wr0.heap.size (wm.setCell ⟨tb, k, none⟩ (.int .i64 (-((m : Int) + 1)))) (.slice (some ⟨tb, 0, none⟩) t.length tcap) (C.set k (halfN O t[k] (m + 1))) := by unfold Row; rw [hl2]; exact hst
                    have hsS : Same0 wr0 (wm.setCell ⟨tb, k, none⟩ (.int .i64 (-((m : Int) + 1)))) := hsm.own htb _
                    have hqb : (t[k] == -O[m]) = true := by rw [beq_iff_eq]; exact hq
                    clear hhit hmiss e1 e2 hst hrm hrm' hl2 hiam
                    generalize O[m] = om at *
                    generalize t[k] = x at *
                    go_wp2
                    go_quiet (fail)
                    go_wp2
                    have hRd := Kept.row ((Kept.refl _ _).drewN nq : Same0 _ _) hstR (fun _ _ f => f)
                    have hSd := hsS.drewN nq
                    go_roundw
                    case rel => first | exact ⟨m + 1, by omega, by go_num, hRd, hSd⟩ | ((repeat apply Exists.intro); exact ⟨⟨m + 1, by omega, by go_num, hRd, hSd⟩, rfl⟩)
                    case measure => simp [intOf]; omega
                  · have e1 := hmiss hq
                    rw [← e1] at hrm
                    have hqb : (t[k] == -O[m]) = false := by simpa using hq
                    clear hhit hmiss e1 hrm' hl2 hiam
                    generalize hZ : C.set k (halfN O t[k] (m + 1)) = Z at *
                    generalize O[m] = om at *
                    generalize t[k] = x at *
                    go_wp2
                    go_quiet (fail)
                    go_wp2
                    have hRd := Kept.row ((Kept.refl _ _).drewN nq : Same0 _ _) hrm (fun _ _ f => f)
                    have hSd := hsm.drewN nq
                    rw [← hZ] at hRd
                    go_roundw
                    case rel => first | exact ⟨m + 1, by omega, by go_num, hRd, hSd⟩ | ((repeat apply Exists.intro); exact ⟨⟨m + 1, by omega, by go_num, hRd, hSd⟩, rfl⟩)
                    case measure => simp [intOf]; omega
                · obtain rfl : m = O.length := by omega
                  rw [CE.out] at hrm
                  go_wp2
                  go_roundw
                  case rel => first | exact ⟨k + 1, by omega, by go_num, hrm, hsm⟩ | ((repeat apply Exists.intro); exact ⟨⟨k + 1, by omega, by go_num, hrm, hsm⟩, rfl⟩)
                  case measure => simp [intOf]; omega
            · obtain rfl : k = t.length := by omega
              obtain ⟨cs, h1, h2⟩ := hOA.same hsk
              have zz := hs6.size
              have zk := hsk.size
              have hub : ∀ k, Value.ownBlock (.slice uo i ucap) = some k → k < wr0.heap.size := fun k e => by obtain ⟨cs', g1, _⟩ := hOA; exact (g1.lt k e).2
              have htb : ∀ k, Value.ownBlock (.slice to' t.length tcap) = some k → Value.ownBlock (.slice uo i ucap) ≠ some k := fun k e e' => by have := (hrk.lt k e).1; have := hub k e'; omega
              have hrB : Row w5.heap.size wk (.slice to' t.length tcap) (curL O t t.length) := row_mono hrk zz
              obtain ⟨j0, hj0, hz0, hz1, hz2⟩ := info_parts info_term
              rw [hdl] at h1
              have b1 : i + 1 ≤ maxLen := by unfold maxLen; omega
              have b2 : (i + 1) * 24 ≤ 140737488355328 := by omega
              have b3 : w5.heap.size ≤ (wk.alloc (.cells #[.slice to' t.length tcap] 25)).heap.size := by simp; omega
              clear HIO HIA HEND HHIT HMISS
              go_wp2_with (first | (at_builtin; refine wpList_append_lies _ rfl (.tmp 83) (.tmp 85) 44 rfl w5.heap.size 25 j0 _ 1 24 Try.underlying44 hj0 hz0 hz1 hz2 rfl (by omega) (.slice uo i ucap) i cs rfl (h1.alloc _) ⟨wk.heap.size, 0, none⟩ 1 1 [.slice to' t.length tcap] rfl rfl (cell_one_new _ _ _) (by simp [Value.oneCell']) (by omega) b1 b2 b3 (wk.heap.size + 1) (by simp) ?_; intro gg gcap w9 hown hgrow hat hglt))
              have kk : Kept (fun k => Value.ownBlock (.slice uo i ucap) = some k) wk w9 := Kept.grown (Kept.alloc (Kept.refl _ wk) _) hgrow (fun _ e _ => e)
              have hOut : OutAt w5.heap.size w9 (.slice (some ⟨gg, 0, none⟩) (done.length + 1) gcap) (done ++ [curL O t t.length]) := OutAt.put (by rw [hdl]; exact h1) h2 hrB htb (by rw [hdl]; exact hown) kk (hat.imp id (fun e => by omega))
              rw [hdl, ← HGET.out] at hOut
              have hs9 : Same0 w5 w9 := Kept.trans (hs6.trans' hsk) kk (fun j hj e => by obtain ⟨cs', g1, _⟩ := hOA; have := (g1.lt j e).1; omega)
              go_roundw
              case rel => first | exact ⟨i + 1, by omega, by go_num, hOut, hs9⟩ | ((repeat apply Exists.intro); exact ⟨⟨i + 1, by omega, by go_num, hOut, hs9⟩, rfl⟩)
              case measure => simp [intOf]; omega
        · obtain rfl : i = ls.length := by omega
          rw [List.take_of_length_le (by rw [plains_length]; exact Nat.le_refl _)] at hOA
          have hfin : OutAt w.heap.size wr0 u8 (plains ls) := by
            obtain ⟨cs, h1, h2⟩ := hOA
            refine ⟨cs, row_mono h1 hs5.size, fun j hj => ?_⟩
            obtain ⟨v, g1, g2, g3⟩ := h2 j hj
            exact ⟨v, g1, row_mono g2 hs5.size, g3⟩
          obtain ⟨cs, h1, _⟩ := hOA
          obtain ⟨uo, ucap, rfl⟩ := row_shape h1
          go_wp2
          go_ret
          exact ⟨_, rfl, hfin, hs06⟩
end Go.Proofs.Ythhcnllabhfejaa
