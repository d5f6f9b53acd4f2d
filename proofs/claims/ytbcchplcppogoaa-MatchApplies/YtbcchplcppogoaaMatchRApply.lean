/- The walk of the document's Apply. -/
import Derived.Test.YtbcchplcppogoaaMatchRPut
namespace Go.Proofs.Ytbcchplcppogoaa
set_option maxRecDepth 100000
set_option linter.unusedVariables false
open Go.RowKit
attribute [local go_sem ↓] Go.wp_at_zero Go.wp_at_succ
theorem BindsAt.take {w : World} {lo : Option Addr} {bs : List Bd} (h : BindsAt w lo bs) (i : Nat) : BindsAt w lo (bs.take i) := by
  rcases h with rfl | ⟨b, off, e, hlt, hc⟩
  · left; simp
  · refine .inr ⟨b, off, e, hlt, fun j hj => ?_⟩
    have hj' : j < bs.length := by rw [List.length_take] at hj; omega
    have := hc j hj'
    simpa using this
theorem rput_all {L : List Sym} {bs : List Bd} {σ : Tb} (h : tabF L bs noT = .ok σ) : ∀ n : Int, -99 ≤ n → rinst bs n = inst σ n := by
  intro n hn
  unfold rinst inst
  by_cases h0 : n < 0
  · rw [if_pos h0]
    have e : (((-n).toNat : Nat) : Int) = -n := by omega
    rcases tab_no h (-n).toNat with ⟨q1, q2⟩ | ⟨u, q1, q2, hk, _⟩
    · rw [e] at q1
      rw [q1, if_pos (.inr q2)]; rfl
    · have hne : σ (-n).toNat ≠ [] := fun q => by
        have := isT_pos (checkE_zero.1 hk).2.2
        rw [← q2, q] at this; simp at this
      rw [e] at q1
      have hno : ¬ (0 ≤ n ∨ σ (-n).toNat = []) := by
        rintro (q | q)
        · omega
        · exact hne q
      rw [q1, if_neg hno, q2]; rfl
  · rw [if_neg h0, if_pos (.inl (by omega))]
theorem rput_app {L : List Sym} {bs : List Bd} {σ : Tb} (h : tabF L bs noT = .ok σ) {t : List Int} (hv : ∀ x ∈ t, -99 ≤ x) (out : List Int) :
    (rputF bs out t).length ≤ (out ++ appT σ t).length ∧ ((out ++ appT σ t).length ≤ 2000 → rputF bs out t = out ++ appT σ t) ∧ (2000 < (out ++ appT σ t).length → 2000 < (rputF bs out t).length) := by
  induction t generalizing out with
  | nil => simp [rputF, appT]
  | cons n r ih =>
    have hr := rput_all h n (hv n (by simp))
    by_cases hle : out.length ≤ 2000
    · rw [rput_go hle, hr, app_cons]
      have := ih (fun x hx => hv x (List.mem_cons_of_mem _ hx)) (out ++ inst σ n)
      rw [List.append_assoc] at this
      exact this
    · rw [rput_stop hle]
      refine ⟨by simp, fun q => ?_, fun _ => by omega⟩
      rw [List.length_append] at q; omega
/-- At the head of a round. -/
structure RA (L : List Sym) (bs : List Bd) (i : Nat) (σ : Tb) : Prop where
  eq : tabF L bs noT = tabF L (bs.drop i) σ
  st : ∀ v : Nat, σ v = [] ↔ boundL (bs.take i) (v : Int) = none
  ok : ∀ b ∈ bs.take i, b.2.length ≤ 2000 ∧ 0 < b.2.length
theorem RA.next {L : List Sym} {bs : List Bd} {i : Nat} {σ : Tb} (h : RA L bs i σ) (hi : i < bs.length) (h1 : ¬ (bs[i].1 < 1 ∨ 99 < bs[i].1 ∨ σ bs[i].1.toNat ≠ [])) (h2 : checkE L bs[i].2 = 0) : RA L bs (i + 1) (updT σ bs[i].1.toNat bs[i].2) := by
  obtain ⟨c1, _, c3⟩ := checkE_zero.1 h2
  have hpos := isT_pos c3
  refine ⟨h.eq.trans (by rw [List.drop_eq_getElem_cons hi, tab_go h1 h2]), fun v => ?_, fun b hb => ?_⟩
  · rw [take_one hi, bound_append, bound_cons]
    by_cases e : v = bs[i].1.toNat
    · have e' : bs[i].1 = (v : Int) := by omega
      have hne : ¬ bs[i].2 = [] := fun q => by rw [q] at hpos; simp at hpos
      rw [if_pos e', e, upd_same]
      simp [hne]
    · have e' : ¬ bs[i].1 = (v : Int) := by omega
      rw [if_neg e', upd_else e, bound_nil, Option.or_none]
      exact h.st v
  · rw [take_one hi] at hb
    rcases List.mem_append.1 hb with q | q
    · exact h.ok b q
    · simp at q; subst q; exact ⟨c1, hpos⟩
set_option maxHeartbeats 8000000 in
theorem rapply_any {n : Nat} {w : World} {rv : Value} {L : List Sym} (h : Rl n w rv L) {ao lo : Option Addr} {cap lcap : Nat} {t : List Int} {bs : List Bd} (ht : IntsAt w ao t) (hm : t.length ≤ maxLen) (hl : BindsAt w lo bs) (hlm : bs.length * 32 ≤ 140737488351232) (hlc : bs.length ≤ lcap) (hbm : ∀ x ∈ bs, x.2.length ≤ maxLen) :
    Calls Try.prog 18 #[rv, .slice ao t.length cap, .slice lo bs.length lcap] w fun e w' => ∃ v, e = .returned (.tuple #[v, .int .i64 (applyE L t bs)]) ∧ Row w.heap.size w' v (applyA L t bs) ∧ Same0 w w' := by
  have hlm2 : bs.length ≤ maxLen := by unfold maxLen; omega
  have cp := rcheck_any (cap := cap) h ht hm
  obtain ⟨ro, rc, rfl⟩ := row_shape h.1
  have HBM : Hid (∀ x ∈ bs, x.2.length ≤ maxLen) := hbm
  clear hbm
  by_cases hz : checkE L t = 0
  · obtain ⟨t1, t2, t3⟩ := checkE_zero.1 hz
    have tv : ∀ x ∈ t, -99 ≤ x ∧ x ≤ 1000 := fun x hx => by
      have := (badE_zero.1 t2) x hx
      have := h.2.2.2
      omega
    have TV : Hid (∀ x ∈ t, -99 ≤ x ∧ x ≤ 1000) := tv
    have HZ : Hid (checkE L t = 0) := hz
    rw [hz] at cp
    clear hz tv t2 t3
    go_enter Try.func18, Try.ntmps18
    go_upto_region 4 with (first | (go_at_call 11; refine cp.mono ?_; rintro e w' ⟨rfl, rfl⟩))
    rename World => w0
    have A0 : RA L bs 0 noT := ⟨rfl, fun v => by simp [noT, boundL], fun b hb => by simp at hb⟩
    go_wp2
    go_loopw [9] (fun iv wr => ∃ (i : Nat) (σ : Tb), i ≤ bs.length ∧ iv = .int .i64 (i : Int) ∧ RA L bs i σ ∧ Same0 w0 wr) (fun iv _ => bs.length - (intOf iv).toNat)
    case atStart => exact ⟨0, noT, Nat.zero_le _, rfl, A0, Kept.refl _ _⟩
    case round =>
      clear A0 cp
      obtain ⟨i, σ, hi, rfl, hA, hs⟩ := hrel
      by_cases hlt : i < bs.length
      · obtain ⟨lb, off, yo, yc, rfl, hlb, c1, c2, c3, -, -⟩ := (hl.same hs).get hlt
        have kd : Same0 wr wr.drew := (Kept.refl _ _).drew
        have hti : (bs.take i).length = i := by rw [List.length_take]; omega
        have cb := bound_any (lcap := lcap) (((hl.same hs).same kd).take i) (by rw [hti]; omega) bs[i].1
        rw [hti] at cb
        have hbi := HBM.out _ (List.getElem_mem hlt)
        have hbad : ∀ q, tabF L bs noT = .error q → applyE L t bs = q ∧ applyA L t bs = [] := fun q e => apply_err HZ.out e
        have heq := hA.eq
        rw [List.drop_eq_getElem_cons hlt] at heq
        have ck : ∀ w', Same0 w0 w' → Calls Try.prog 11 #[.slice ro L.length rc, .slice yo bs[i].2.length yc] w' fun e w'' => e = .returned (.int .i64 (checkE L bs[i].2)) ∧ w'' = w' := fun w' hk => rcheck_any (cap := yc) (h.same hk) (by
          obtain ⟨lb', off', yo', yc', e, hlb', _, d2, d3, _, _⟩ := hl.get hlt
          cases e
          have := (hs.cell (p := ⟨lb, off + i * 2 + 1, none⟩) hlb' (fun f => f)).trans d2
          rw [c2] at this
          cases this
          exact d3.same hk) hbi
        have CK : Hid (∀ w', Same0 w0 w' → Calls Try.prog 11 #[.slice ro L.length rc, .slice yo bs[i].2.length yc] w' fun e w'' => e = .returned (.int .i64 (checkE L bs[i].2)) ∧ w'' = w') := ck
        have hnx := hA.next hlt
        obtain ⟨x, hx⟩ : ∃ x, x = bs[i].1 := ⟨_, rfl⟩
        obtain ⟨y, hy⟩ : ∃ y, y = bs[i].2 := ⟨_, rfl⟩
        have hp : bs[i] = (x, y) := by rw [hx, hy]
        obtain ⟨tw, htw⟩ : ∃ tw, tw = (boundL (bs.take i) x).isSome := ⟨_, rfl⟩
        have hst := hA.st x.toNat
        rw [hp] at heq hnx
        rw [← hx] at cb c1
        rw [← hy] at CK c2
        have cc : Calls Try.prog 25 #[.slice (some ⟨lb, off, none⟩) i lcap, .int .i64 x] wr.drew fun e w' => ∃ uo ul uc, e = .returned (.tuple #[.slice uo ul uc, .bool tw]) ∧ w' = wr.drew := cb.mono (fun e w' ⟨q1, q2, q3⟩ => by
          cases hbd : boundL (bs.take i) x with
          | none => rw [htw, hbd]; exact ⟨none, 0, 0, q2 hbd, q3⟩
          | some u =>
            obtain ⟨ao, cap, q4, _⟩ := q1 u hbd
            rw [htw, hbd]; exact ⟨ao, u.length, cap, q4, q3⟩)
        have hs1 : Same0 w0 wr.drew := hs.drew
        have d1 : wr.drew.cell? ⟨lb, off + i * 2, none⟩ = some (.int .i64 x) := c1
        have d2 : wr.drew.cell? ⟨lb, off + i * 2 + 1, none⟩ = some (.slice yo y.length yc) := c2
        have i1 : (0 : Int) ≤ (i : Int) := by omega
        have i2 : (i : Int) < (bs.length : Int) := by omega
        have i3 : (i : Int) ≤ (lcap : Int) := by omega
        have B50 : Hid (x < 1 ∨ 99 < x ∨ tw = true → applyE L t bs = 50 ∧ applyA L t bs = []) := fun q => by
          refine hbad 50 (heq.trans (tab_bad ?_))
          rcases q with q | q | q
          · exact .inl q
          · exact .inr (.inl q)
          · by_cases hx1 : x < 1
            · exact .inl hx1
            · refine .inr (.inr fun e => ?_)
              have := hst.1 e
              have ex : ((x.toNat : Nat) : Int) = x := by omega
              rw [ex] at this
              rw [htw, this] at q; cases q
        have BCK : Hid (¬ x < 1 → ¬ 99 < x → tw = false → (checkE L y ≠ 0 → applyE L t bs = checkE L y ∧ applyA L t bs = []) ∧ (checkE L y = 0 → RA L bs (i + 1) (updT σ x.toNat y))) := fun q1 q2 q3 => by
          have ex : ((x.toNat : Nat) : Int) = x := by omega
          have hno : ¬ (x < 1 ∨ 99 < x ∨ σ x.toNat ≠ []) := by
            rintro (q | q | q)
            · exact q1 q
            · exact q2 q
            · refine q (hst.2 ?_)
              rw [ex]
              rw [htw] at q3
              exact Option.isNone_iff_eq_none.1 (by simpa using q3)
          exact ⟨fun q => hbad _ (heq.trans (tab_check hno q)), fun q => hnx hno q⟩
        clear cb ck hnx hst heq hbad hA hx hy hp htw c1 c2 c3 hbi
        go_wp2_with fail
        go_cut [10, 11] from 25 to 36 (fun x10 x11 w6 => (∃ uo ul uc, x10 = .slice uo ul uc) ∧ x11 = .bool tw ∧ w6 = wr.drew)
        case first =>
          go_region_with (first | (go_at_call 25; refine cc.mono ?_; rintro e w6 ⟨uo, ul, uc, rfl, rfl⟩))
          all_goals
            go_wp2_with fail
            go_meet
            case rel => exact ⟨⟨uo, ul, uc, rfl⟩, rfl, rfl⟩
        case rest =>
          obtain ⟨⟨uo, ul, uc, rfl⟩, rfl, rfl⟩ := hcut
          clear cc
          by_cases h1 : x < 1
          · have HX : Hid (applyE L t bs = 50 ∧ applyA L t bs = []) := B50.out (.inl h1)
            go_wp2
            go_ret2
            refine ⟨.slice none 0 0, by rw [HX.out.1]; rfl, ?_, hs1⟩
            rw [HX.out.2]; exact World.ownsRow_nil _ _ _ _
          · by_cases h2 : 99 < x
            · have HX : Hid (applyE L t bs = 50 ∧ applyA L t bs = []) := B50.out (.inr (.inl h2))
              go_wp2
              go_ret2
              refine ⟨.slice none 0 0, by rw [HX.out.1]; rfl, ?_, hs1⟩
              rw [HX.out.2]; exact World.ownsRow_nil _ _ _ _
            · cases tw with
              | true =>
                have HX : Hid (applyE L t bs = 50 ∧ applyA L t bs = []) := B50.out (.inr (.inr rfl))
                go_wp2
                go_ret2
                refine ⟨.slice none 0 0, by rw [HX.out.1]; rfl, ?_, hs1⟩
                rw [HX.out.2]; exact World.ownsRow_nil _ _ _ _
              | false =>
                obtain ⟨y1, y2⟩ := BCK.out (by omega) (by omega) rfl
                have ck := CK.out _ hs1
                by_cases hk : checkE L y = 0
                · have hR := y2 hk
                  rw [hk] at ck
                  clear y1 y2 BCK B50
                  go_wp2_with (first | (go_at_call 11; refine ck.mono ?_; rintro e w' ⟨rfl, rfl⟩))
                  exact ⟨⟨i + 1, _, by omega, by go_num, hR, hs1⟩, by simp [intOf]; omega⟩
                · have HX : Hid (applyE L t bs = checkE L y ∧ applyA L t bs = []) := y1 hk
                  have hk' : (checkE L y == 0) = false := by simpa using hk
                  clear y1 y2 BCK B50 hk
                  go_wp2_with (first | (go_at_call 11; refine ck.mono ?_; rintro e w' ⟨rfl, rfl⟩))
                  go_ret2
                  refine ⟨.slice none 0 0, by rw [HX.out.1]; rfl, ?_, hs1⟩
                  rw [HX.out.2]; exact World.ownsRow_nil _ _ _ _
      · obtain rfl : i = bs.length := by omega
        have hT : tabF L bs noT = .ok σ := by
          have := hA.eq
          rw [List.drop_length] at this
          exact this.trans rfl
        have hok := hA.ok
        rw [List.take_length] at hok
        have cput := rputB_any (cap := cap) (lcap := lcap) (ht.same hs) hm (hl.same hs) hlm2 hok TV.out
        obtain ⟨-, r1, r2⟩ := rput_app hT (fun x hx => (TV.out x hx).1) []
        rw [List.nil_append] at r1 r2
        have hs0 := hs.size
        by_cases hlong : 2000 < (appT σ t).length
        · have HX : Hid (applyE L t bs = 20 ∧ applyA L t bs = []) := apply_long HZ.out hT hlong
          have hl2 := r2 hlong
          have hl3 : (2000 : Int) < ((rputF bs [] t).length : Int) := by omega
          clear r1 r2 hT hA hok hlong
          go_wp2_with (first | (go_at_call 35; refine cput.mono ?_; rintro e w5 ⟨v5, rfl, hr5, k5⟩; obtain ⟨vo, vc, rfl⟩ := row_shape hr5))
          go_ret2
          refine ⟨.slice none 0 0, by rw [HX.out.1]; rfl, ?_, hs.trans' k5⟩
          rw [HX.out.2]; exact World.ownsRow_nil _ _ _ _
        · have HX : Hid (applyE L t bs = 0 ∧ applyA L t bs = appT σ t) := apply_ok HZ.out hT hlong
          have e1 := r1 (by omega)
          rw [e1] at cput
          have hl3 : ¬ (2000 : Int) < ((appT σ t).length : Int) := by omega
          clear r1 r2 hT hA hok hlong e1
          generalize appT σ t = X at *
          go_wp2_with (first | (go_at_call 35; refine cput.mono ?_; rintro e w5 ⟨v5, rfl, hr5, k5⟩; obtain ⟨vo, vc, rfl⟩ := row_shape hr5))
          go_ret2
          refine ⟨_, by rw [HX.out.1]; rfl, ?_, hs.trans' k5⟩
          rw [HX.out.2]; exact row_mono hr5 hs0
  · have hz' : (checkE L t == 0) = false := by simpa using hz
    have HX : Hid (applyE L t bs = checkE L t ∧ applyA L t bs = []) := apply_check hz
    go_enter Try.func18, Try.ntmps18
    go_wp2_with (first | (go_at_call 11; refine cp.mono ?_; rintro e w' ⟨rfl, rfl⟩))
    go_ret2
    refine ⟨.slice none 0 0, by rw [HX.out.1]; rfl, ?_, Kept.refl _ _⟩
    rw [HX.out.2]; exact World.ownsRow_nil _ _ _ _
end Go.Proofs.Ytbcchplcppogoaa
