/- The walk of the document's Match. -/
import Derived.Test.YtbcchplcppogoaaMatchInto
namespace Go.Proofs.Ytbcchplcppogoaa
set_option maxRecDepth 100000
set_option linter.unusedVariables false
open Go.RowKit
attribute [local go_sem ↓] Go.wp_at_zero Go.wp_at_succ
def outOf (r : Option Tb) : List Bd := match r with | some σ => blN σ 100 | none => []
/-- At the head of a round: i of the pattern and j of the subterm at q are passed. -/
structure RM (w wr : World) (L : List Sym) (p su : List Int) (i j : Nat) (σ : Tb) (lo : Option Addr) : Prop where
  mw : Proofs.Ytbcchplcppogoaa.mw L p su noT = Proofs.Ytbcchplcppogoaa.mw L (p.drop i) (su.drop j) σ
  even : Even L (p.drop i) (su.drop j)
  jle : j ≤ su.length
  bnd : Bnd σ
  out : BindsAt wr lo (blN σ 100)
  kept : Same0 w wr
theorem sub_split {L : List Sym} {t : List Int} (hT : IsT L t) {q : Nat} (hq : q < t.length) {j : Nat} (hj : j ≤ (subN L t q).length) : t.drop (q + j) = (subN L t q).drop j ++ t.drop (endN L t q) := by
  have he := endN_le hT hq
  have hl := sub_length hT hq
  have h1 : t.drop q = subN L t q ++ t.drop (endN L t q) := by
    unfold subN
    rw [List.drop_take]
    have : t.drop (endN L t q) = (t.drop q).drop (endN L t q - q) := by rw [List.drop_drop]; congr 1; omega
    rw [this, List.take_append_drop]
  rw [← List.drop_drop, h1, List.drop_append_of_le_length hj]
theorem sub_at {L : List Sym} {t : List Int} (hT : IsT L t) {q : Nat} (hq : q < t.length) {j m : Nat} (hj : j < (subN L t q).length) (hs : scan L 1 ((subN L t q).drop j) = some m) (hm : m ≤ ((subN L t q).drop j).length) : subN L t (q + j) = headT L ((subN L t q).drop j) := by
  have e := sub_split hT hq (Nat.le_of_lt hj)
  have h1 := head_app (b := t.drop (endN L t q)) hs hm
  rw [← e] at h1
  rw [← h1]
  have he := endN_le hT hq
  have hl := sub_length hT hq
  obtain ⟨n, g1, g2, g3⟩ := isT_scan hT (p := q + j) (by omega)
  rw [subN, endN_of g1, headT, g1, List.drop_take]
  simp
theorem isT_end {L : List Sym} {t : List Int} (hT : IsT L t) {q : Nat} (hq : q < t.length) : endN L t q ≤ t.length := (endN_le hT hq).2
set_option maxHeartbeats 8000000 in
theorem rmatch_any {n : Nat} {w : World} {rv : Value} {L : List Sym} (h : Rl n w rv L) {po ao : Option Addr} {pc tc : Nat} {p t : List Int} (hp : IntsAt w po p) (ht : IntsAt w ao t) (hpc : checkE L p = 0) (htc : checkE L t = 0) (hcap : t.length ≤ tc) {q : Nat} (hq : q < t.length) :
    Calls Try.prog 12 #[rv, .slice po p.length pc, .slice ao t.length tc, .int .i64 (q : Int)] w fun e w' => ∃ lo cap, e = .returned (.tuple #[.slice lo (outOf (mw L p (subN L t q) noT)).length cap, .bool (mw L p (subN L t q) noT).isSome]) ∧ BindsAt w' lo (outOf (mw L p (subN L t q) noT)) ∧ Same0 w w' := by
  obtain ⟨p1, p2, p3⟩ := checkE_zero.1 hpc
  obtain ⟨t1, t2, t3⟩ := checkE_zero.1 htc
  have pv : ∀ x ∈ p, -99 ≤ x := fun x hx => ((badE_zero.1 p2) x hx).2
  have hsl := sub_length t3 hq
  have hle := endN_le t3 hq
  have hst := sub_need t3 hq
  obtain ⟨ro, rc, rfl⟩ := row_shape h.1
  have CSUB : Hid (∀ w1 k, Same0 w w1 → k < t.length → Calls Try.prog 23 #[.slice ro L.length rc, .slice ao t.length tc, .int .i64 (k : Int)] w1 fun e w' => ∃ v, e = .returned v ∧ Row w1.heap.size w' v (subN L t k) ∧ Same0 w1 w') := fun w1 k hk hkl => rsub_any (cap := tc) (h.same hk) (ht.same hk) t1 hcap t3 k hkl
  have W0 : RM w w L p (subN L t q) 0 0 noT none := ⟨rfl, even_term p3 hst, Nat.zero_le _, fun v => by simp [noT], .inl (by decide), Kept.refl _ _⟩
  have z0 : (blN noT 100).length = 0 := by decide
  have PV : Hid (∀ x ∈ p, -99 ≤ x) := pv
  have SUB : Hid (∀ j m, j < (subN L t q).length → scan L 1 ((subN L t q).drop j) = some m → m ≤ ((subN L t q).drop j).length → subN L t (q + j) = headT L ((subN L t q).drop j)) := fun j m => sub_at t3 hq
  have TX : Hid (∀ j (hj : j < (subN L t q).length), ∃ h' : q + j < t.length, t[q + j] = (subN L t q)[j]) := fun j hj => by
    have h' : q + j < t.length := by omega
    refine ⟨h', ?_⟩
    have e := sub_split t3 hq (Nat.le_of_lt hj)
    rw [List.drop_eq_getElem_cons h', List.drop_eq_getElem_cons hj] at e
    exact (List.cons.inj e).1
  have hsu : (subN L t q).length ≤ 2000 := by omega
  have hqs : q + (subN L t q).length ≤ t.length := by omega
  generalize hSU : subN L t q = SU at *
  have t1' := t1
  clear hst hle hsl p2 p3 t2 t3 pv hSU h
  go_enter Try.func12, Try.ntmps12
  go_wp2
  go_loopw [10, 11, 12] (fun ov kv iv wr => ∃ (i j : Nat) (σ : Tb) (lo : Option Addr) (cap : Nat), i ≤ p.length ∧ iv = .int .i64 (i : Int) ∧ kv = .int .i64 ((q + j : Nat) : Int) ∧ ov = .slice lo (blN σ 100).length cap ∧ RM w wr L p SU i j σ lo) (fun _ _ iv _ => p.length - (intOf iv).toNat)
  case atStart => exact ⟨0, 0, noT, none, 0, Nat.zero_le _, rfl, rfl, by rw [z0], W0⟩
  case round =>
    clear W0
    obtain ⟨i, j, σ, lo, cap, hi, rfl, rfl, rfl, hR⟩ := hrel
    have hbl := blN_len σ 100
    by_cases hlt : i < p.length
    · obtain ⟨pb, poff, rfl, hpb, hpx⟩ := (hp.same hR.kept).get hlt
      have hd : p.drop i = p[i] :: p.drop (i + 1) := List.drop_eq_getElem_cons hlt
      have hev := hR.even
      rw [hd] at hev
      obtain ⟨x, ts', hx, q1, q2⟩ := hev.cons
      have hjl : j < SU.length := by
        have := congrArg List.length hx
        simp at this; omega
      have hx2 : SU.drop j = SU[j] :: SU.drop (j + 1) := List.drop_eq_getElem_cons hjl
      obtain ⟨hqj, htx⟩ := TX.out j hjl
      obtain ⟨tb, toff, rfl, htb, hty⟩ := (ht.same hR.kept).get hqj
      rw [htx] at hty
      have i1 : (0 : Int) ≤ (i : Int) := by omega
      have i2 : (i : Int) < (p.length : Int) := by omega
      have i3 : (0 : Int) ≤ ((q + j : Nat) : Int) := by omega
      have i4 : ((q + j : Nat) : Int) < (t.length : Int) := by omega
      have hvp := PV.out _ (List.getElem_mem hlt)
      obtain ⟨N, hN⟩ : ∃ N, N = q + j := ⟨_, rfl⟩
      have HNq : Hid (N = q + j) := hN
      rw [← hN] at i3 i4 hty ⊢
      by_cases hn : 0 ≤ p[i]
      · have d1 : wr.drew.cell? ⟨tb, toff + N, none⟩ = some (.int .i64 SU[j]) := hty
        have d2 : wr.drew.cell? ⟨pb, poff + i, none⟩ = some (.int .i64 p[i]) := hpx
        by_cases hq' : SU[j] = p[i]
        · have hR' : Hid (RM w wr L p SU (i + 1) (j + 1) σ lo) := by
            rw [hx2] at hx
            simp only [List.cons.injEq] at hx
            exact ⟨hR.mw.trans (by rw [hd, hx2, mw_sym hn, if_pos hq']), by rw [hx.2]; exact q1 hn (by rw [← hx.1]; exact hq'), by omega, hR.bnd, hR.out, hR.kept⟩
          have hqe : (SU[j] == p[i]) = true := by simpa using hq'
          have hNt : N ≤ 2000 := by omega
          clear hR q1 q2 hx hx2 hd hev hN
          go_wp2
          go_quiet (fail)
          go_wp2
          refine ⟨⟨i + 1, j + 1, σ, lo, cap, by omega, by go_num, ?_, rfl, ?_⟩, by simp [intOf]; omega⟩
          · rw [HNq.out]; congr 1
          · have r := hR'.out
            have kd : Same0 wr (wr.drewN nq) := (Kept.refl _ wr).drewN nq
            exact ⟨r.mw, r.even, r.jle, r.bnd, r.out.same kd, r.kept.trans' kd⟩
        · have HX : Hid (mw L p SU noT = none) := by
            show _ = _
            rw [hR.mw, hd, hx2, mw_sym hn, if_neg hq']
          have hqe : (SU[j] == p[i]) = false := by simpa using hq'
          have hk := hR.kept
          clear hR q1 q2 hx hx2 hd hev hN
          go_wp2
          go_quiet (fail)
          go_wp2
          go_ret2
          refine ⟨none, 0, ?_, ?_, hk.drewN _⟩
          · rw [HX.out]; rfl
          · rw [HX.out]; exact .inl rfl
      · obtain ⟨m, g1, g2, g3, g4, g5, g6⟩ := q2 hn
        obtain ⟨v, hvv⟩ : ∃ v : Nat, v = (-p[i]).toNat := ⟨_, rfl⟩
        have hpi : p[i] = -(v : Int) := by omega
        have hU := SUB.out j m hjl g1 g3
        rw [← hN] at hU
        rw [List.length_drop] at g3
        rw [List.drop_drop] at g6
        obtain ⟨U, hUU⟩ : ∃ U, U = headT L (SU.drop j) := ⟨_, rfl⟩
        rw [← hUU] at hU g5
        have cs := CSUB.out wr N hR.kept (by omega)
        rw [hU] at cs
        have hUne : U ≠ [] := fun e => by rw [e] at g5; simp at g5; omega
        rw [hpi] at hpx
        have PC : Hid (∀ w', Same0 wr w' → w'.cell? ⟨pb, poff + i, none⟩ = some (.int .i64 (-(v : Int)))) := fun w' hk => (hk.cell (p := ⟨pb, poff + i, none⟩) hpb (fun f => f)).trans hpx
        have hbb := bound_bl (σ := σ) (n := 100) (v := v) (by omega)
        have CB : Hid (∀ w', Same0 wr w' → Calls Try.prog 25 #[.slice lo (blN σ 100).length cap, .int .i64 (v : Int)] w' fun e w'' => (∀ u, boundL (blN σ 100) (v : Int) = some u → ∃ ao cap, e = .returned (.tuple #[.slice ao u.length cap, .bool true]) ∧ IntsAt w' ao u ∧ u.length ≤ cap ∧ NilOk ao cap u) ∧ (boundL (blN σ 100) (v : Int) = none → e = .returned (.tuple #[.slice none 0 0, .bool false])) ∧ w'' = w') := fun w' hk => bound_any (lcap := cap) (hR.out.same hk) (by unfold maxLen; omega) (v : Int)
        have i5 : (0 : Int) ≤ (v : Int) := by omega
        have i7 : - -(v : Int) = (v : Int) := by omega
        have i8 : ¬ v = 0 := by omega
        have i6 : (v : Int) < 100 := by omega
        have hU2 : U.length ≤ 2000 := by omega
        have hk0 := hR.kept
        have KN : Hid (((q + (j + m) : Nat) : Int) = (N : Int) + (U.length : Int)) := by show _ = _; rw [hN, g5]; omega
        by_cases hs : σ v = []
        · rw [if_pos hs] at hbb
          have CI : Hid (∀ w' (uo : Option Addr) (uc : Nat), Same0 wr w' → IntsAt w' uo U → U.length ≤ uc → (uo = none → U.length = 0 ∧ uc = 0) → Calls Try.prog 30 #[.slice lo (blN σ 100).length cap, .agg #[.int .i64 (v : Int), .slice uo U.length uc]] w' fun e w'' => ∃ ro rc, e = .returned (.slice ro (blN (updT σ v U) 100).length rc) ∧ RM w w'' L p SU (i + 1) (j + m) (updT σ v U) ro) := fun w' uo uc hk hi1 hi2 hi3 => by
            refine (into_any (lcap := cap) (hR.out.same hk) (by omega) (v : Int) hi1 hi2 hi3).mono ?_
            rintro e w'' ⟨ro, rc, rfl, hBA, hk2⟩
            rw [into_bl (by omega) hs hUne] at hBA ⊢
            refine ⟨ro, rc, rfl, hR.mw.trans ?_, g6, by omega, bnd_upd hR.bnd hU2, hBA, (hk0.trans' hk).trans' hk2⟩
            rw [hd, mw_new hn (by rw [← hvv]; exact hs), ← hUU, g5, List.drop_drop, ← hvv]
          have CB2 : Hid (∀ w', Same0 wr w' → Calls Try.prog 25 #[.slice lo (blN σ 100).length cap, .int .i64 (v : Int)] w' fun e w'' => e = .returned (.tuple #[.slice none 0 0, .bool false]) ∧ w'' = w') := fun w' hk => (CB.out w' hk).mono (fun e w'' ⟨_, q2, q3⟩ => ⟨q2 hbb, q3⟩)
          clear hR q1 q2 hx hx2 hd hev hN CB hbb hs hUU hU g5 g4 g1 g6 hpi hvv hty SUB TX CSUB PV
          generalize hBL2 : blN (updT σ v U) 100 = BL2 at CI
          have HB2 : Hid (blN (updT σ v U) 100 = BL2) := hBL2
          clear hBL2
          generalize blN σ 100 = BL at *
          go_wp2_with (first
            | (go_at_call 23; refine cs.mono ?_; rintro e w2 ⟨uv, rfl, hr2, k2⟩; obtain ⟨uo, uc, rfl, hi2, hc2, hb2⟩ := hr2.ints; have pc2 := PC.out w2 k2; have cb2 := CB2.out w2 k2; have ci2 := CI.out w2 uo uc k2 hi2 hc2 (fun e => (by subst e; rcases hr2.2 with ⟨z1, z2⟩ | ⟨g', c', cur', z1, _⟩ <;> (simp at z1; try omega))))
            | (go_at_call 25; refine cb2.mono ?_; rintro e w' ⟨rfl, rfl⟩)
            | (go_at_call 30; refine ci2.mono ?_; rintro e w4 ⟨ro4, rc4, rfl, hR4⟩))
          refine ⟨⟨i + 1, j + m, updT σ v U, ro4, rc4, by omega, by go_num, by rw [KN.out], by rw [HB2.out], hR4⟩, by simp [intOf]; omega⟩
        · rw [if_neg hs] at hbb
          have CB2 : Hid (∀ w', Same0 wr w' → Calls Try.prog 25 #[.slice lo (blN σ 100).length cap, .int .i64 (v : Int)] w' fun e w'' => ∃ ao cap, e = .returned (.tuple #[.slice ao (σ v).length cap, .bool true]) ∧ IntsAt w' ao (σ v) ∧ w'' = w') := fun w' hk => (CB.out w' hk).mono (fun e w'' ⟨q1, _, q3⟩ => by obtain ⟨ao, cap, y1, y2, _⟩ := q1 _ hbb; exact ⟨ao, cap, y1, y2, q3⟩)
          have hsl2 := hR.bnd v
          by_cases he : σ v = U
          · have hR' : Hid (∀ w', Same0 wr w' → RM w w' L p SU (i + 1) (j + m) σ lo) := fun w' hk => by
              refine ⟨hR.mw.trans ?_, g6, by omega, hR.bnd, hR.out.same hk, hk0.trans' hk⟩
              rw [hd, mw_old hn (by rw [← hvv]; exact hs), ← hUU, g5, List.drop_drop, ← hvv, if_pos he]
            rw [he] at CB2
            have CS : Hid (∀ w' (ao bo : Option Addr) (ac bc : Nat), IntsAt w' ao U → IntsAt w' bo U → Calls Try.prog 20 #[.slice ao U.length ac, .slice bo U.length bc] w' fun e w'' => e = .returned (.bool true) ∧ Same0 w' w'') := fun w' ao bo ac bc y1 y2 => by
              refine (same_any (acap := ac) (bcap := bc) y1 y2 (by unfold maxLen; omega)).mono ?_
              rintro e w'' ⟨rfl, y3⟩
              exact ⟨by simp [sameB], y3⟩
            clear hR q1 q2 hx hx2 hd hev hN CB hbb hs hUU hU g5 g4 g1 g6 hpi hvv hty he
            go_wp2_with (first
              | (go_at_call 23; refine cs.mono ?_; rintro e w2 ⟨uv, rfl, hr2, k2⟩; obtain ⟨uo, uc, rfl, hi2, hc2, hb2⟩ := hr2.ints; have pc2 := PC.out w2 k2; have cb2 := CB2.out w2 k2)
              | (go_at_call 25; refine cb2.mono ?_; rintro e w' ⟨oo, oc, rfl, hio, rfl⟩; have csm := CS.out _ oo uo oc uc hio hi2)
              | (go_at_call 20; refine csm.mono ?_; rintro e w4 ⟨rfl, k4⟩))
            refine ⟨⟨i + 1, j + m, σ, lo, cap, by omega, by go_num, ?_, rfl, hR'.out _ (k2.trans' k4)⟩, by simp [intOf]; omega⟩
            rw [KN.out]
          · have HX : Hid (mw L p SU noT = none) := by
              show _ = _
              rw [hR.mw, hd, mw_old hn (by rw [← hvv]; exact hs), ← hUU, ← hvv, if_neg he]
            have CS : Hid (∀ w' (ao bo : Option Addr) (ac bc : Nat), IntsAt w' ao (σ v) → IntsAt w' bo U → Calls Try.prog 20 #[.slice ao (σ v).length ac, .slice bo U.length bc] w' fun e w'' => e = .returned (.bool false) ∧ Same0 w' w'') := fun w' ao bo ac bc y1 y2 => by
              refine (same_any (acap := ac) (bcap := bc) y1 y2 (by unfold maxLen; omega)).mono ?_
              rintro e w'' ⟨rfl, y3⟩
              exact ⟨by simp [sameB, he], y3⟩
            clear hR q1 q2 hx hx2 hd hev hN CB hbb hs hUU hU g5 g4 g1 g6 hpi hvv hty he
            go_wp2_with (first
              | (go_at_call 23; refine cs.mono ?_; rintro e w2 ⟨uv, rfl, hr2, k2⟩; obtain ⟨uo, uc, rfl, hi2, hc2, hb2⟩ := hr2.ints; have pc2 := PC.out w2 k2; have cb2 := CB2.out w2 k2)
              | (go_at_call 25; refine cb2.mono ?_; rintro e w' ⟨oo, oc, rfl, hio, rfl⟩; have csm := CS.out _ oo uo oc uc hio hi2)
              | (go_at_call 20; refine csm.mono ?_; rintro e w4 ⟨rfl, k4⟩))
            go_ret2
            refine ⟨none, 0, ?_, ?_, (hk0.trans' k2).trans' k4⟩
            · rw [HX.out]; rfl
            · rw [HX.out]; exact .inl rfl
    · have hn : p.drop i = [] := List.drop_eq_nil_of_le (by omega)
      have HX : Hid (mw L p SU noT = some σ) := by
        have := hR.mw
        rw [hn] at this
        exact this.trans rfl
      have hk := hR.kept
      have ho := hR.out
      clear hR hn
      go_wp2
      go_ret2
      refine ⟨lo, cap, ?_, ?_, hk⟩
      · rw [HX.out]; rfl
      · rw [HX.out]; exact ho
end Go.Proofs.Ytbcchplcppogoaa
