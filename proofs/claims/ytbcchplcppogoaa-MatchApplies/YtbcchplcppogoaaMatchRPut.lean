/- The walk of the document's Put: terms in the places of variables. -/
import Derived.Test.YtbcchplcppogoaaMatchBound
namespace Go.Proofs.Ytbcchplcppogoaa
set_option maxRecDepth 100000
set_option linter.unusedVariables false
open Go.RowKit
attribute [local go_sem ↓] Go.wp_at_zero Go.wp_at_succ
/-- What the document puts for a number. -/
def rinst (bs : List Bd) (n : Int) : List Int := if n < 0 then (boundL bs (-n)).getD [n] else [n]
/-- .. for some: it ends as soon as there are too many. -/
def rputF (bs : List Bd) : List Int → List Int → List Int
  | out, [] => out
  | out, n :: r => if out.length ≤ 2000 then rputF bs (out ++ rinst bs n) r else out
theorem rput_stop {bs : List Bd} {out t : List Int} (h : ¬ out.length ≤ 2000) : rputF bs out t = out := by
  cases t with
  | nil => rfl
  | cons n r => rw [rputF, if_neg h]
theorem rput_go {bs : List Bd} {out : List Int} {n : Int} {r : List Int} (h : out.length ≤ 2000) : rputF bs out (n :: r) = rputF bs (out ++ rinst bs n) r := by rw [rputF, if_pos h]
set_option maxHeartbeats 8000000 in
theorem rputB_any {w : World} {ao lo : Option Addr} {cap lcap : Nat} {t : List Int} {bs : List Bd} (ht : IntsAt w ao t) (hm : t.length ≤ maxLen) (hl : BindsAt w lo bs) (hlm : bs.length ≤ maxLen) (hb : ∀ b ∈ bs, b.2.length ≤ 2000 ∧ 0 < b.2.length) (hv : ∀ x ∈ t, -99 ≤ x ∧ x ≤ 1000) :
    Calls Try.prog 35 #[.slice ao t.length cap, .slice lo bs.length lcap] w fun e w' => ∃ v, e = .returned v ∧ Row w.heap.size w' v (rputF bs [] t) ∧ Same0 w w' := by
  unfold maxLen at hm
  have HB : Hid (∀ b ∈ bs, b.2.length ≤ 2000 ∧ 0 < b.2.length) := hb
  have HV : Hid (∀ x ∈ t, -99 ≤ x ∧ x ≤ 1000) := hv
  clear hb hv
  go_enter Try.func35, Try.ntmps35
  go_wp2
  go_loopw [5, 6] (fun ov iv wr => ∃ (i : Nat) (out : List Int), i ≤ t.length ∧ iv = .int .i64 (i : Int) ∧ Row w.heap.size wr ov out ∧ out.length ≤ 4001 ∧ Hid (rputF bs [] t = rputF bs out (t.drop i)) ∧ Same0 w wr) (fun _ iv _ => t.length - (intOf iv).toNat)
  case atStart => exact ⟨0, [], Nat.zero_le _, rfl, World.ownsRow_nil _ _ _ _, by simp, rfl, Kept.refl _ _⟩
  case round =>
    obtain ⟨i, out, hi, rfl, hr, hol, hq, hs⟩ := hrel
    obtain ⟨oo, oc, rfl⟩ := row_shape hr
    have hs0 := hs.size
    by_cases hlt : i < t.length
    · have hd : t.drop i = t[i] :: t.drop (i + 1) := List.drop_eq_getElem_cons hlt
      obtain ⟨tb, toff, rfl, htb, htx⟩ := (ht.same hs).get hlt
      have i1 : (0 : Int) ≤ (i : Int) := by omega
      have i2 : (i : Int) < (t.length : Int) := by omega
      by_cases hle : out.length ≤ 2000
      · have hle' : (out.length : Int) ≤ 2000 := by omega
        obtain ⟨hv1, hv2⟩ := HV.out _ (List.getElem_mem hlt)
        have HQ : Hid (rputF bs [] t = rputF bs (out ++ rinst bs t[i]) (t.drop (i + 1))) := by
          show _ = _
          rw [hq.out, hd, rput_go hle]
        have cb := bound_any (lcap := lcap) (hl.same hs) hlm (-t[i])
        have ONE : Hid (∀ y : Int, t[i] = y → rinst bs t[i] = [y] → rputF bs [] t = rputF bs (out ++ [y]) (t.drop (i + 1))) := fun y _ e => by rw [HQ.out, e]
        obtain ⟨x, hx⟩ : ∃ x, x = t[i] := ⟨_, rfl⟩
        rw [← hx] at cb htx hv1 hv2 HQ
        have hol2 : ((out.length + 1) * 8 : Nat) ≤ 140737488355328 := by omega
        by_cases hneg : x < 0
        · cases hbd : boundL bs (-x) with
          | none =>
            have E1 : Hid (rputF bs [] t = rputF bs (out ++ [x]) (t.drop (i + 1))) := by
              have e : rinst bs x = [x] := by rw [rinst, if_pos hneg, hbd]; rfl
              show _ = _
              rw [HQ.out, e]
            have cc : Calls Try.prog 25 #[.slice lo bs.length lcap, .int .i64 (-x)] wr fun e w' => e = .returned (.tuple #[.slice none 0 0, .bool false]) ∧ w' = wr := cb.mono (fun e w' ⟨_, q2, q3⟩ => ⟨q2 hbd, q3⟩)
            clear hq hd hx cb HQ ONE hbd
            go_wp2_with (first | (go_at_call 25; refine cc.mono ?_; rintro e w' ⟨rfl, rfl⟩) | (at_builtin; refine wpList_push rfl _ _ 25 rfl Try.underlying25 w.heap.size out _ rfl hr x rfl hs0 hol2 ?_; intro g gcap w5 hr5 hk5 _; have hs5 := hs.onto hr hk5))
            have hl5 : (out ++ [x]).length ≤ 4001 := by simp; omega
            go_roundw
            case rel => first | exact ⟨i + 1, _, by omega, by go_num, hr5, hl5, E1, hs5⟩ | ((repeat apply Exists.intro); exact ⟨⟨i + 1, _, by omega, by go_num, hr5, hl5, E1, hs5⟩, rfl⟩)
            case measure => simp [intOf]; omega
          | some u =>
            obtain ⟨hu1, hu2⟩ := HB.out _ (bound_mem hbd)
            simp only at hu1 hu2
            have E1 : Hid (rputF bs [] t = rputF bs (out ++ u) (t.drop (i + 1))) := by
              have e : rinst bs x = u := by rw [rinst, if_pos hneg, hbd]; rfl
              show _ = _
              rw [HQ.out, e]
            have cc : Calls Try.prog 25 #[.slice lo bs.length lcap, .int .i64 (-x)] wr fun e w' => ∃ ub uo uc, e = .returned (.tuple #[.slice (some ⟨ub, uo, none⟩) u.length uc, .bool true]) ∧ IntsAt wr (some ⟨ub, uo, none⟩) u ∧ w' = wr := cb.mono (fun e w' ⟨q1, _, q3⟩ => by
              obtain ⟨ao, cap, q4, q5, _⟩ := q1 u hbd
              obtain ⟨ub, uo, rfl, _, _⟩ := q5.get hu2
              exact ⟨ub, uo, cap, q4, q5, q3⟩)
            clear hq hd hx cb HQ ONE hbd
            go_wp2_with (first | (go_at_call 25; refine cc.mono ?_; rintro e w' ⟨ub, uo, uc, rfl, hy, rfl⟩) | (at_builtin; refine wpList_more rfl _ _ 25 rfl Try.underlying25 w.heap.size out _ rfl hr u _ _ _ rfl rfl hy hs0 (by omega) ?_; intro v5 w5 hr5 hk5; have hs5 := hs.onto hr hk5))
            have hl5 : (out ++ u).length ≤ 4001 := by rw [List.length_append]; omega
            obtain ⟨vo, vc, rfl⟩ := row_shape hr5
            go_roundw
            case rel => first | exact ⟨i + 1, _, by omega, by go_num, hr5, hl5, E1, hs5⟩ | ((repeat apply Exists.intro); exact ⟨⟨i + 1, _, by omega, by go_num, hr5, hl5, E1, hs5⟩, rfl⟩)
            case measure => simp [intOf]; omega
        · have E1 : Hid (rputF bs [] t = rputF bs (out ++ [x]) (t.drop (i + 1))) := by
            have e : rinst bs x = [x] := by rw [rinst, if_neg hneg]
            show _ = _
            rw [HQ.out, e]
          have cc : Calls Try.prog 25 #[.slice lo bs.length lcap, .int .i64 (-x)] wr fun e w' => ∃ uo ul uc ub, e = .returned (.tuple #[.slice uo ul uc, .bool ub]) ∧ w' = wr := cb.mono (fun e w' ⟨q1, q2, q3⟩ => by
            cases hbd : boundL bs (-x) with
            | none => exact ⟨none, 0, 0, false, q2 hbd, q3⟩
            | some u =>
              obtain ⟨ao, cap, q4, _⟩ := q1 u hbd
              exact ⟨ao, u.length, cap, true, q4, q3⟩)
          clear hq hd hx cb HQ ONE
          go_wp2_with (first | (go_at_call 25; refine cc.mono ?_; rintro e w' ⟨uo, ul, uc, ub, rfl, rfl⟩) | (at_builtin; refine wpList_push rfl _ _ 25 rfl Try.underlying25 w.heap.size out _ rfl hr x rfl hs0 hol2 ?_; intro g gcap w5 hr5 hk5 _; have hs5 := hs.onto hr hk5))
          have hl5 : (out ++ [x]).length ≤ 4001 := by simp; omega
          go_roundw
          case rel => first | exact ⟨i + 1, _, by omega, by go_num, hr5, hl5, E1, hs5⟩ | ((repeat apply Exists.intro); exact ⟨⟨i + 1, _, by omega, by go_num, hr5, hl5, E1, hs5⟩, rfl⟩)
          case measure => simp [intOf]; omega
      · have hle' : ¬ (out.length : Int) ≤ 2000 := by omega
        have HX : Hid (rputF bs [] t = out) := by
          show _ = _
          rw [hq.out, rput_stop hle]
        clear hq hd
        go_wp2
        go_ret
        refine ⟨_, rfl, ?_, hs⟩
        rw [HX.out]; exact hr
    · have hn : t.drop i = [] := List.drop_eq_nil_of_le (by omega)
      have HX : Hid (rputF bs [] t = out) := by
        show _ = _
        rw [hq.out, hn]; rfl
      clear hq hn
      go_wp2
      go_ret
      refine ⟨_, rfl, ?_, hs⟩
      rw [HX.out]; exact hr
end Go.Proofs.Ytbcchplcppogoaa
