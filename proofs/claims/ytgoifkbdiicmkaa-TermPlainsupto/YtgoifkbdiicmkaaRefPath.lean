/- The walk of the document's Path. -/
import Derived.Test.YtgoifkbdiicmkaaTermPath
import Derived.Test.YtgoifkbdiicmkaaRefTerm
namespace Go.Proofs.Ytgoifkbdiicmkaa
set_option linter.unusedVariables false
open Go.RowKit
attribute [local go_sem ↓] Go.wp_at_zero Go.wp_at_succ
/-- What the inner loop of Path holds, when k arguments were looked at. -/
structure Sought (w wr : World) (ov : Value) (ao : Option Addr) (args : List Int) (out : List Int) : Prop where
  row : Row w.heap.size wr ov out
  at' : IntsAt wr ao args
  ne : ∀ a, ao = some a → ov.ownBlock ≠ some a.block
  lt : ∀ a, ao = some a → a.block < wr.heap.size
  s : Same0 w wr
theorem Sought.push {w wr w' : World} {ov : Value} {ao : Option Addr} {args out : List Int} {g cap : Nat} {x : Int} (h : Sought w wr ov ao args out) (hr : Row w.heap.size w' (.slice (some ⟨g, 0, none⟩) (out.length + 1) cap) (out ++ [x])) (hk : Kept (fun k => ov.ownBlock = some k) wr w') (hat : ov.ownBlock = some g ∨ wr.heap.size ≤ g) :
    Sought w w' (.slice (some ⟨g, 0, none⟩) (out.length + 1) cap) ao args (out ++ [x]) := by
  refine ⟨hr, h.at'.kept hk (fun a e => h.ne a e), ?_, fun a e => Nat.lt_of_lt_of_le (h.lt a e) hk.size, h.s.onto h.row hk⟩
  intro a e e'
  simp only [Value.ownBlock, Option.some.injEq] at e'
  rcases hat with e1 | e1
  · exact h.ne a e (by rw [e1, e'])
  · have := h.lt a e; omega
theorem firsts_cons (i a : Nat) (st : List (Nat × Nat)) : firsts ((i, a) :: st) = firsts st ++ [(i : Int)] := by simp [firsts, ofN]
set_option maxRecDepth 4000 in
set_option maxHeartbeats 8000000 in
theorem rpath_any {n : Nat} {w : World} {rv : Value} {L : List Sym} (h : Rl n w rv L) {ao : Option Addr} {cap : Nat} {t : List Int} (ht : IntsAt w ao t) (hm : t.length ≤ 2000) (hT : IsT L t) (p : Nat) (hp : p < t.length) :
    Calls Try.prog 21 #[rv, .slice ao t.length cap, .int .i64 (p : Int)] w fun e w' => ∃ v, e = .returned v ∧ Row w.heap.size w' v (firsts (way L t p)) ∧ Same0 w w' := by
  have c1 : Hid (∀ w1 q, Same0 w w1 → q < t.length → Calls Try.prog 19 #[rv, .slice ao t.length cap, .int .i64 (q : Int)] w1 fun e w' => ∃ v, e = .returned v ∧ Row w1.heap.size w' v (ofN (argsN L t q)) ∧ Same0 w1 w') := fun w1 q hk hq => rargs_any (cap := cap) (h.same hk) (ht.same hk) hm hT q hq
  have c2 : Hid (∀ w1 q, Same0 w w1 → q < t.length → Calls Try.prog 18 #[rv, .slice ao t.length cap, .int .i64 (q : Int)] w1 fun e w' => e = .returned (.int .i64 (endN L t q : Int)) ∧ w' = w1) := fun w1 q hk hq => rend_any (cap := cap) (h.same hk) (ht.same hk) hm q (by omega)
  have HAR : Hid (∀ x, arN L x ≤ 6) := fun x => arN_le h.2.2.1 x
  obtain ⟨ro, rcap, rfl⟩ := row_shape h.1
  go_enter Try.func21, Try.ntmps21
  go_wp2
  go_loopw [7, 8] (fun ov hv wr => ∃ h : Nat, hv = .int .i64 (h : Int) ∧ h ≤ p ∧ p < endN L t h ∧ Row w.heap.size wr ov (firsts (way L t h)) ∧ Same0 w wr) (fun _ hv _ => p - (intOf hv).toNat)
  case atStart => exact ⟨0, rfl, Nat.zero_le _, by rw [endN_zero hT]; exact hp, World.ownsRow_nil _ _ _ _, Kept.refl _ _⟩
  case round =>
    obtain ⟨q0, rfl, hq1, hq2, hr, hs⟩ := hrel
    obtain ⟨oo, ocap, rfl⟩ := row_shape hr
    by_cases hlt : q0 < p
    · have hq0 : q0 < t.length := by omega
      obtain ⟨i0, hi0, g1, g2, g3, g4, g5, g6⟩ := kid_in hT hq0 hlt hq2
      have cA := c1.out wr q0 hs hq0
      have h6 := HAR.out t[q0]
      have hlen : (ofN (argsN L t q0)).length = arN L t[q0] := by rw [argsN_eq hq0]; simp [ofN, starts_length]
      have HG : Hid (∀ j, j < arN L t[q0] → (ofN (argsN L t q0))[j]? = some ((past L t j (q0 + 1) : Nat) : Int) ∧ past L t j (q0 + 1) < t.length) := fun j hj => by
        have e1 := starts_at (L := L) (t := t) (p := q0 + 1) hj
        rw [← argsN_eq hq0] at e1
        exact ⟨by simp [ofN, e1], past_lt hT hq0 hj⟩
      have EW : Hid (firsts (way L t (past L t i0 (q0 + 1))) = firsts (way L t q0) ++ [(i0 : Int)]) := by show _ = _; rw [g5, firsts_cons]
      have HU : Hid (∀ j, j < arN L t[q0] → (past L t j (q0 + 1) ≤ p ∧ p < endN L t (past L t j (q0 + 1)) ↔ j = i0)) := g6
      have hwl : (firsts (way L t q0)).length ≤ 2000 := by rw [firsts_length]; have := way_length L t q0 (by omega); omega
      have hltI : (q0 : Int) < (p : Int) := by omega
      clear g5 g6
      go_wp2_with fail
      refine cA.mono ?_
      rintro e w2 ⟨va, rfl, ra, k2⟩
      obtain ⟨aao, acap, rfl, ia, _, hab⟩ := ra.ints
      have S0 : Sought w w2 (.slice oo (firsts (way L t q0)).length ocap) aao (ofN (argsN L t q0)) (firsts (way L t q0)) := by
        refine ⟨Kept.row k2 hr (fun _ _ f => f), ia, ?_, fun a e => (hab a e).2, hs.trans' k2⟩
        intro a e e'
        have := (hr.lt _ e').2
        have := (hab a e).1
        omega
      clear cA ra ia hab hr hs k2
      obtain ⟨A, hA⟩ : ∃ A, A = arN L t[q0] := ⟨_, rfl⟩
      rw [← hA] at hlen HG HU hi0 h6
      generalize hargs : ofN (argsN L t q0) = args at *
      rw [hlen]
      clear hargs hA
      generalize hW : firsts (way L t q0) = W0 at *
      have g1I : ¬ (p : Int) < (past L t i0 (q0 + 1) : Int) := by omega
      go_wp2
      obtain ⟨wo, rfl⟩ : ∃ wo : World, wo = wr := ⟨_, rfl⟩
      go_loopw [7, 10, 11] (fun ov nv kv wr => ∃ k : Nat, k ≤ A ∧ kv = .int .i64 (k : Int) ∧ ((k ≤ i0 ∧ nv = .int .i64 (q0 : Int) ∧ Sought w wr ov aao args W0) ∨ (i0 < k ∧ nv = .int .i64 (past L t i0 (q0 + 1) : Int) ∧ Sought w wr ov aao args (W0 ++ [(i0 : Int)])))) (fun _ _ kv _ => A - (intOf kv).toNat)
      case atStart => exact ⟨0, Nat.zero_le _, rfl, .inl ⟨Nat.zero_le _, rfl, S0⟩⟩
      case round =>
        clear S0
        obtain ⟨k, hkA, rfl, hcase⟩ := hrel
        by_cases hkl : k < A
        · obtain ⟨hg1, hg2⟩ := HG.out k hkl
          obtain ⟨hgl, hge⟩ := List.getElem?_eq_some_iff.1 hg1
          have hu := HU.out k hkl
          have m0 : (0 : Int) ≤ (k : Int) := by omega
          have m1 : (k : Int) < (A : Int) := by omega
          rcases hcase with ⟨hki, rfl, hS⟩ | ⟨hki, rfl, hS⟩
          · obtain ⟨ab, aoff, rfl, _, hac⟩ := hS.at'.get hgl
            rw [hge] at hac
            have cE := c2.out wr _ hS.s hg2
            by_cases hke : k = i0
            · subst hke
              obtain ⟨vo, vcap, rfl⟩ := row_shape hS.row
              have hPp : ((past L t k (q0 + 1) : Nat) : Int) ≤ (p : Int) := by omega
              have hpE : (p : Int) < (endN L t (past L t k (q0 + 1)) : Int) := by omega
              have hb8 : (W0.length + 1) * 8 ≤ 140737488355328 := by omega
              have hrow := hS.row
              have hss := hS.s.size
              clear hg1 hge hu
              have hacs : ∀ w', Kept (fun k => Value.ownBlock (.slice vo W0.length vcap) = some k) wr w' → w'.cell? ⟨ab, aoff + k, none⟩ = some (.int .i64 ((past L t k (q0 + 1) : Nat) : Int)) := fun w' hk => (hk.cell (p := ⟨ab, aoff + k, none⟩) (hS.lt ⟨ab, aoff, none⟩ rfl) (hS.ne ⟨ab, aoff, none⟩ rfl)).trans hac
              have HACS : Hid (∀ w', Kept (fun k => Value.ownBlock (.slice vo W0.length vcap) = some k) wr w' → w'.cell? ⟨ab, aoff + k, none⟩ = some (.int .i64 ((past L t k (q0 + 1) : Nat) : Int))) := hacs
              clear hacs
              generalize past L t k (q0 + 1) = P at *
              go_wp2_with (first | (go_at_call 18; refine cE.mono ?_; rintro e wr ⟨rfl, rfl⟩) | (at_builtin; refine wpList_push rfl _ _ 24 rfl Try.underlying24 w.heap.size W0 _ rfl hrow (k : Int) rfl hss hb8 ?_; intro g gcap w4 hr4 hk4 hat4; have hS4 := hS.push hr4 hk4 hat4; have hac4 := HACS.out _ hk4))
              go_roundw
              case rel => first | exact ⟨k + 1, by omega, by go_num, .inr ⟨by omega, rfl, hS4⟩⟩ | ((repeat apply Exists.intro); exact ⟨⟨k + 1, by omega, by go_num, .inr ⟨by omega, rfl, hS4⟩⟩, rfl⟩)
              case measure => simp [intOf]; omega
            · have hno : ¬ (past L t k (q0 + 1) ≤ p ∧ p < endN L t (past L t k (q0 + 1))) := fun e => hke (hu.1 e)
              obtain ⟨vo, vcap, rfl⟩ := row_shape hS.row
              clear hg1 hge hu
              generalize past L t k (q0 + 1) = P at *
              by_cases hPp : P ≤ p
              · have hPi : ((P : Nat) : Int) ≤ (p : Int) := by omega
                have hpE : ¬ (p : Int) < (endN L t P : Int) := by omega
                clear hno
                go_wp2_with (first | (go_at_call 18; refine cE.mono ?_; rintro e wr ⟨rfl, rfl⟩))
                go_roundw
                case rel => first | exact ⟨k + 1, by omega, by go_num, .inl ⟨by omega, rfl, hS⟩⟩ | ((repeat apply Exists.intro); exact ⟨⟨k + 1, by omega, by go_num, .inl ⟨by omega, rfl, hS⟩⟩, rfl⟩)
                case measure => simp [intOf]; omega
              · have hPi : ¬ ((P : Nat) : Int) ≤ (p : Int) := by omega
                clear hno cE
                go_wp2
                go_roundw
                case rel => first | exact ⟨k + 1, by omega, by go_num, .inl ⟨by omega, rfl, hS⟩⟩ | ((repeat apply Exists.intro); exact ⟨⟨k + 1, by omega, by go_num, .inl ⟨by omega, rfl, hS⟩⟩, rfl⟩)
                case measure => simp [intOf]; omega
          · obtain ⟨ab, aoff, rfl, _, hac⟩ := hS.at'.get hgl
            rw [hge] at hac
            have cE := c2.out wr _ hS.s hg2
            have hno : ¬ (past L t k (q0 + 1) ≤ p ∧ p < endN L t (past L t k (q0 + 1))) := fun e => by have := hu.1 e; omega
            obtain ⟨vo, vcap, rfl⟩ := row_shape hS.row
            have hl1 : (W0 ++ [(i0 : Int)]).length = W0.length + 1 := by simp
            rw [hl1] at hS ⊢
            clear hl1
            clear hg1 hge hu
            generalize past L t k (q0 + 1) = P at *
            by_cases hPp : P ≤ p
            · have hPi : ((P : Nat) : Int) ≤ (p : Int) := by omega
              have hpE : ¬ (p : Int) < (endN L t P : Int) := by omega
              clear hno
              go_wp2_with (first | (go_at_call 18; refine cE.mono ?_; rintro e wr ⟨rfl, rfl⟩))
              go_roundw
              case rel => first | exact ⟨k + 1, by omega, by go_num, .inr ⟨by omega, rfl, hS⟩⟩ | ((repeat apply Exists.intro); exact ⟨⟨k + 1, by omega, by go_num, .inr ⟨by omega, rfl, hS⟩⟩, rfl⟩)
              case measure => simp [intOf]; omega
            · have hPi : ¬ ((P : Nat) : Int) ≤ (p : Int) := by omega
              clear hno cE
              go_wp2
              go_roundw
              case rel => first | exact ⟨k + 1, by omega, by go_num, .inr ⟨by omega, rfl, hS⟩⟩ | ((repeat apply Exists.intro); exact ⟨⟨k + 1, by omega, by go_num, .inr ⟨by omega, rfl, hS⟩⟩, rfl⟩)
              case measure => simp [intOf]; omega
        · obtain rfl : k = A := by omega
          rcases hcase with ⟨hki, rfl, hS⟩ | ⟨hki, rfl, hS⟩
          · omega
          · obtain ⟨vo, vcap, rfl⟩ := row_shape hS.row
            have hrw := hS.row
            have hs9 := hS.s
            rw [← EW.out] at hrw
            have hne : ((past L t i0 (q0 + 1) : Int) == (q0 : Int)) = false := by simp; omega
            have hne' : ¬ (past L t i0 (q0 + 1) : Int) = (q0 : Int) := by omega
            have hne'' : ¬ past L t i0 (q0 + 1) = q0 := by omega
            clear hS
            rw [← EW.out]
            generalize hPP : past L t i0 (q0 + 1) = P at *
            go_wp2
            go_roundw
            case rel => first | exact ⟨P, rfl, g1, g2, hrw, hs9⟩ | ((repeat apply Exists.intro); exact ⟨⟨P, rfl, g1, g2, hrw, hs9⟩, rfl⟩)
            case measure => simp [intOf]; omega
    · obtain rfl : q0 = p := by omega
      go_wp2
      go_ret
      exact ⟨_, rfl, hr, hs⟩
end Go.Proofs.Ytgoifkbdiicmkaa
