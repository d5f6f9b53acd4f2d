/- The walk of SpineMoves: Move turns the frames' addresses alone. -/
import Derived.Test.YtikcocjbbbdmgaaSpineAwake
import Derived.Test.YtikcocjbbbdmgaaSpineMove
namespace Go.Proofs.Ytikcocjbbbdmgaa
set_option maxRecDepth 100000
set_option linter.unusedVariables false
open Go.RowKit
attribute [local go_sem ↓] Go.wp_at_zero Go.wp_at_succ
theorem any_take {dt : List Int} {k : Nat} (hk : k < dt.length) : (dt.take (k + 1)).any (fun z => decide (z < 0)) = ((dt.take k).any (fun z => decide (z < 0)) || decide (dt[k] < 0)) := by
  rw [List.take_succ_eq_append_getElem hk, List.any_append]
  simp
theorem FRow.filled {B : Nat → Prop} {base : Nat} {w : World} {v : Value} {l : List Fr} (h : FRow B base w v l) (hl : l ≠ []) : ∃ g cap, v = .slice (some ⟨g, 0, none⟩) l.length cap := by
  obtain ⟨vs, h1, _⟩ := h
  rcases h1.2 with ⟨_, h0⟩ | ⟨g, cap, cur, e, _⟩
  · exact absurd (List.eq_nil_of_length_eq_zero h0) hl
  · exact ⟨g, cap, e⟩
theorem FRow.nodeX {B : Nat → Prop} {base : Nat} {w : World} {g cap n : Nat} {l : List Fr} (p : FRow B base w (.slice (some ⟨g, 0, none⟩) n cap) l) (hn : n = l.length) {i : Nat} (hi : i < l.length) (z : Int) :
    FRow B base (w.setCell ⟨g, i * 4, none⟩ (.int .i64 z)) (.slice (some ⟨g, 0, none⟩) n cap) (l.set i (z, l[i].2)) ∧ Kept (fun k => (Value.slice (some ⟨g, 0, none⟩) n cap).ownBlock = some k) w (w.setCell ⟨g, i * 4, none⟩ (.int .i64 z)) ∧ (∃ u, w.cell? ⟨g, i * 4, none⟩ = some u) ∧ w.frozen? ⟨g, i * 4, none⟩ = false := by
  subst hn
  have ks : Kept (fun k => k = g) w (w.setCell ⟨g, i * 4, none⟩ (.int .i64 z)) := Kept.setCell (S := fun k => k = g) (Kept.refl _ w) (p := ⟨g, i * 4, none⟩) (fun _ => rfl) _
  obtain ⟨-, -, -, cur, hc⟩ := p.block (k := g) rfl
  obtain ⟨b, off, xo, xc, e, -, m0, -⟩ := p.mem.get hi
  simp only [Option.some.injEq, Addr.mk.injEq, and_true] at e
  obtain ⟨rfl, rfl⟩ := e
  rw [Nat.zero_add] at m0
  exact ⟨p.node hi z, ks.mono (fun k _ e => by rw [e]; rfl), ⟨_, m0⟩, frozenAt hc _⟩
set_option maxHeartbeats 4000000 in
theorem smoves_walk {B : Nat → Prop} {w : World} (root : Int) {ao : Option Addr} {l : List Fr} (h : FsM B w ao l) (ac : Nat) (hl : l.length * 48 ≤ 140737488351232) {dao : Option Addr} {dt : List Int} {dac : Nat} (hd : Arg w dao dt dac) :
    Calls Try.prog 6 #[.int .i64 root, .slice ao l.length ac, .slice dao dt.length dac] w fun e w' => e = .returned (.bool true) ∧ Below w.heap.size w w' := by
  have C0 := awake14_any w
  have HB : Hid (∀ ww, Same0 w ww → Below w.heap.size w ww) := fun ww hk => Kept.below hk (Nat.le_refl _) (fun _ _ f => f)
  have HF : Hid (∀ ww, Same0 w ww → FsM B ww ao l) := fun ww hk => h.same hk
  have HD : Hid (∀ ww, Same0 w ww → Arg ww dao dt dac) := fun ww hk => ⟨hd.at'.same hk, hd.cap', hd.nil, hd.size⟩
  have HDB : Hid (dt ≠ [] → ∀ a, dao = some a → a.block < w.heap.size) := fun h0 a e => hd.at'.ltF h0 e
  have HL : Hid (l.length * 48 ≤ 140737488351232) := hl
  have hds := hd.size
  obtain ⟨L, hL⟩ : ∃ L : List Fr, L = (root, true, 0, []) :: l := ⟨_, rfl⟩
  have HLL : Hid (L.length = l.length + 1) := by show _ = _; rw [hL]; simp
  have HL48 : Hid (L.length * 48 ≤ 140737488355328) := by show _ ≤ _; rw [HLL.out]; omega
  clear h hl hd
  go_enter Try.func6, Try.ntmps6
  go_upto_region 2 with (first | (go_at_call 9; refine C0.mono ?_; rintro e w1 ⟨rfl, k1⟩))
  have C1 := filled_any root (HF.out w1 k1) ac HL.out
  rw [← hL] at C1
  have K1 : Hid (Same0 w w1) := k1
  clear C0 k1 hL
  go_upto_region 5 with (first | (go_at_call 13; refine C1.mono ?_; rintro e w2 ⟨rfl, v2, p2, k2⟩))
  have C2 := frames_any p2 HL48.out
  have P2 : Hid (SpT 53 (fun k => w1.heap.size ≤ k) w1.heap.size w2 w1.heap.size v2 L ∧ Same0 w1 w2) := ⟨p2, k2⟩
  clear C1 p2 k2
  go_upto_region 6 with (first | (go_at_call 22; refine C2.mono ?_; rintro e w3 ⟨u3, rfl, r3, k3⟩))
  have k13 : Same0 w w3 := K1.out.trans' (P2.out.2.trans' k3)
  have C3 := move_any (P2.out.1.same k3) (HD.out w3 k13) (fun h0 a e f => by
    have := (P2.out.1.row.block f).1
    have := HDB.out h0 a e
    have := K1.out.size
    omega)
  have R3 : Hid (FRow (fun k => w2.heap.size ≤ k) w2.heap.size w3 u3 L ∧ Same0 w w3 ∧ Same0 w2 w3) := ⟨r3, k13, k3⟩
  clear C2 r3 k3 k13
  go_upto_region 7 with (first | (go_at_call 23; refine C3.mono ?_; rintro e w4 ⟨rfl, p4, k4⟩))
  have C4 := frames_any p4 (by rw [mvR_len]; exact HL48.out)
  have R4 : Hid (FRow (fun k => w2.heap.size ≤ k) w2.heap.size w4 u3 L ∧ Same0 w w4 ∧ w3.heap.size ≤ w4.heap.size ∧ ∀ k, u3.ownBlock = some k → w2.heap.size ≤ k ∧ k < w3.heap.size) := by
    have lo := fun k (e : v2.ownBlock = some k) => P2.out.1.row.block e
    refine ⟨R3.out.1.kept k4 (fun k e f => ?_) (fun k hk f => ?_), R3.out.2.1.trans k4 (fun i hi f => ?_), k4.size, fun k e => ?_⟩
    · have := (R3.out.1.block e).1
      have := (lo k f).2.1
      omega
    · have := (lo k f).2.1
      omega
    · have := (lo i f).1
      have := K1.out.size
      omega
    · have := R3.out.1.block e
      exact ⟨this.1, this.2.1⟩
  have HZ2 : Hid (w.heap.size ≤ w2.heap.size) := (K1.out.trans' P2.out.2).size
  clear C3 k4 p4 P2 R3
  go_upto_region 8 with (first | (go_at_call 22; refine C4.mono ?_; rintro e w5 ⟨u5, rfl, r5, k5⟩))
  obtain ⟨M, hM⟩ : ∃ M : List Fr, M = mvR L dt := ⟨_, rfl⟩
  rw [← hM] at r5
  have HML : Hid (M.length = l.length + 1) := by show _ = _; rw [hM, mvR_len, HLL.out]
  have HR5 : Hid (FRow (fun k => w4.heap.size ≤ k) w4.heap.size w5 u5 M ∧ FRow (fun k => w2.heap.size ≤ k) w2.heap.size w5 u3 L ∧ Same0 w w5) := ⟨r5, R4.out.1.same k5, R4.out.2.1.trans' k5⟩
  have HM : Hid (M = mvR L dt) := hM
  obtain ⟨ao3, ac3, e3⟩ := R4.out.1.shape
  obtain ⟨ao5, ac5, e5⟩ := r5.shape
  rw [HLL.out] at e3
  rw [HML.out] at e5
  subst e3 e5
  obtain ⟨E, hE⟩ : ∃ E, E = mvE L dt := ⟨_, rfl⟩
  have HE : Hid (E = mvE L dt) := hE
  rw [← hE]
  have n0 : (l.length : Int) < 9223372036854775806 := by have := HL.out; omega
  have n1 : IntKind.i64.wrap ((l.length : Int) + 1) = (l.length : Int) + 1 := fwrap (by omega) (by omega)
  have DI : Hid (IntsAt w5 dao dt) := (HD.out w5 HR5.out.2.2).at'
  clear r5 k5 C4 hM hE
  go_upto_region 12 with fail
  go_loop [12, 13] (fun b i => ∃ k : Nat, k ≤ dt.length ∧ i = .int .i64 (k : Int) ∧ b = .bool ((dt.take k).any (fun z => decide (z < 0)))) (fun _ i => dt.length - (intOf i).toNat)
  case atStart => exact ⟨0, Nat.zero_le _, rfl, by simp⟩
  case round =>
    obtain ⟨k, hk, rfl, rfl⟩ := hrel
    by_cases hlt : k < dt.length
    · have i0 : (0 : Int) ≤ (k : Int) := by omega
      have i1 : (k : Int) < (dt.length : Int) := by omega
      have i2 : IntKind.i64.wrap ((k : Int) + 1) = (k : Int) + 1 := fwrap (by omega) (by omega)
      obtain ⟨db, doff, rfl, -, cD⟩ := DI.out.get hlt
      have HA : Hid ((dt.take (k + 1)).any (fun z => decide (z < 0)) = ((dt.take k).any (fun z => decide (z < 0)) || decide (dt[k] < 0))) := any_take hlt
      generalize (dt.take k).any (fun z => decide (z < 0)) = b at *
      cases b
      · by_cases hz : dt[k] < 0
        · have HA2 : Hid ((dt.take (k + 1)).any (fun z => decide (z < 0)) = true) := by show _ = _; rw [HA.out]; simpa using hz
          clear HA
          generalize dt[k] = z at *
          go_wp2
          go_round
          case rel => exact ⟨k + 1, by omega, by go_num, by rw [HA2.out]⟩
          case measure => simp [intOf]; omega
        · have HA2 : Hid ((dt.take (k + 1)).any (fun z => decide (z < 0)) = false) := by show _ = _; rw [HA.out]; simpa using hz
          clear HA
          generalize dt[k] = z at *
          go_wp2
          go_round
          case rel => exact ⟨k + 1, by omega, by go_num, by rw [HA2.out]⟩
          case measure => simp [intOf]; omega
      · have HA2 : Hid ((dt.take (k + 1)).any (fun z => decide (z < 0)) = true) := by show _ = _; rw [HA.out]; simp
        clear HA
        go_wp2
        go_round
        case rel => exact ⟨k + 1, by omega, by go_num, by rw [HA2.out]⟩
        case measure => simp [intOf]; omega
    · have hkl : k = dt.length := by omega
      subst hkl
      rw [List.take_length]
      by_cases hlen : dt.length = l.length + 1
      · have q1 : (dt.length : Int) = (l.length : Int) + 1 := by omega
        obtain ⟨b, hb⟩ : ∃ b, b = dt.any (fun z => decide (z < 0)) := ⟨_, rfl⟩
        cases b
        · have e0 : mvE L dt = 0 := by unfold mvE; rw [HLL.out]; simp [hlen, ← hb]
          have e1 : M = mvF L dt L.length := by rw [HM.out]; unfold mvR; rw [e0]; simp
          have e2 : E = 0 := by rw [HE.out, e0]
          subst e2
          rw [← hb]
          clear hb e0 HE
          have HN5 : Hid (∀ ww, Kept (fun k => (Value.slice ao3 (l.length + 1) ac3).ownBlock = some k) w5 ww → FsM (fun k => w4.heap.size ≤ k) ww ao5 M ∧ IntsAt ww dao dt ∧ Same0 w ww) := fun ww hk => by
            have lo := R4.out.2.2.2
            have hz4 := R4.out.2.2.1
            refine ⟨(HR5.out.1.kept hk (fun k e f => ?_) (fun k hk' f => ?_)).mem, ?_, HR5.out.2.2.trans hk (fun i hi f => ?_)⟩
            · have := (HR5.out.1.block e).1
              have := (lo k f).2
              omega
            · have := (lo k f).2
              omega
            · by_cases h0 : dt = []
              · exact .inl h0
              · exact DI.out.kept hk (fun a e f => by have := HDB.out h0 a e; have := (lo _ f).1; have := HZ2.out; omega)
            · have := (lo i f).1
              have := HZ2.out
              omega
          have H0 : Hid (FRow (fun k => w2.heap.size ≤ k) w2.heap.size w5 (.slice ao3 (l.length + 1) ac3) (mvF L dt 0) ∧ Kept (fun k => (Value.slice ao3 (l.length + 1) ac3).ownBlock = some k) w5 w5) := ⟨HR5.out.2.1, Kept.refl _ _⟩
          have HMV : Hid (∀ k, (mvF L dt k).length = l.length + 1) := fun k => by rw [mvF_len, HLL.out]
          have HLD : Hid (dt.length = l.length + 1) := hlen
          have HMF : Hid (M = mvF L dt dt.length) := by show _ = _; rw [e1, HLL.out, hlen]
          clear e1 HM HR5 DI R4 hlen
          go_upto_region 19 with fail
          go_loopw [15] (fun i wr => ∃ k : Nat, i = .int .i64 (k : Int) ∧ k ≤ dt.length ∧ Hid (FRow (fun k => w2.heap.size ≤ k) w2.heap.size wr (.slice ao3 (l.length + 1) ac3) (mvF L dt k) ∧ Kept (fun k => (Value.slice ao3 (l.length + 1) ac3).ownBlock = some k) w5 wr)) (fun i _ => dt.length - (intOf i).toNat)
          case atStart => exact ⟨0, rfl, Nat.zero_le _, H0⟩
          case round =>
            clear H0
            obtain ⟨k, rfl, hk', HP⟩ := hrel
            by_cases hlt : k < dt.length
            · have i0 : (0 : Int) ≤ (k : Int) := by omega
              have i1 : (k : Int) < (dt.length : Int) := by omega
              have i3 : (k : Int) < (l.length : Int) + 1 := by have := HLD.out; omega
              have i2 : IntKind.i64.wrap ((k : Int) + 1) = (k : Int) + 1 := fwrap (by omega) (by omega)
              have hlm : k < (mvF L dt k).length := by rw [HMV.out, ← HLD.out]; exact hlt
              obtain ⟨g, cap, e⟩ := HP.out.1.filled (fun e => by rw [e] at hlm; simp at hlm)
              simp only [Value.slice.injEq] at e
              obtain ⟨rfl, -, rfl⟩ := e
              obtain ⟨M1, M2, ⟨u, m3⟩, m4⟩ := HP.out.1.nodeX (HMV.out k).symm (i := k) hlm dt[k]
              obtain ⟨db, doff, e, -, cD⟩ := (HN5.out wr HP.out.2).2.1.get hlt
              subst e
              have HN : Hid (FRow (fun k => w2.heap.size ≤ k) w2.heap.size (wr.setCell ⟨g, k * 4, none⟩ (.int .i64 dt[k])) (.slice (some ⟨g, 0, none⟩) (l.length + 1) ac3) (mvF L dt (k + 1)) ∧ Kept (fun k => (Value.slice (some ⟨g, 0, none⟩) (l.length + 1) ac3).ownBlock = some k) w5 (wr.setCell ⟨g, k * 4, none⟩ (.int .i64 dt[k]))) := ⟨by rw [mvF_succ hlt hlm]; exact M1, HP.out.2.trans M2 (fun _ _ e => e)⟩
              clear HP M1 M2 hlm
              generalize dt[k] = z at *
              go_wp2
              go_roundw
              case rel => first | exact ⟨k + 1, by go_num, by omega, HN⟩ | ((repeat apply Exists.intro); exact ⟨⟨k + 1, by go_num, by omega, HN⟩, rfl⟩)
              case measure => simp [intOf]; omega
            · have hkl : k = dt.length := by omega
              subst hkl
              have CS := sameFrames_any (ac := ac3) (bc := ac5) HP.out.1.mem (HN5.out wr HP.out.2).1 (by have := HL48.out; rw [HLL.out] at this; rw [HMV.out]; unfold maxLen; omega)
              rw [HMF.out, eqFs_self, HMV.out] at CS
              have K5 : Hid (Same0 w wr) := (HN5.out wr HP.out.2).2.2
              clear HP HN5 HMV HMF
              go_wp2_with (first | (go_at_call 24; refine CS.mono ?_; rintro e w6 ⟨rfl, k6⟩))
              go_ret
              exact ⟨rfl, HB.out _ (K5.out.trans' k6)⟩
        · have e0 : mvE L dt = 141 := by unfold mvE; rw [HLL.out]; simp [hlen, ← hb]
          have e1 : M = L := by rw [HM.out]; unfold mvR; rw [e0]; simp
          have e2 : E = 141 := by rw [HE.out, e0]
          subst e2
          have CS := sameFrames_any (ac := ac3) (bc := ac5) HR5.out.2.1.mem HR5.out.1.mem (by have := HL48.out; unfold maxLen; omega)
          rw [e1, eqFs_self, HLL.out] at CS
          have K5 : Hid (Same0 w w5) := HR5.out.2.2
          rw [← hb]
          clear hb e0 HE e1 HM HML HR5 R4
          go_wp2_with (first | (go_at_call 24; refine CS.mono ?_; rintro e w6 ⟨rfl, k6⟩))
          go_ret
          exact ⟨rfl, HB.out _ (K5.out.trans' k6)⟩
      · have q1 : ¬ (dt.length : Int) = (l.length : Int) + 1 := by omega
        have e0 : mvE L dt = 1 := by unfold mvE; rw [HLL.out]; simp [hlen]
        have e1 : M = L := by rw [HM.out]; unfold mvR; rw [e0]; simp
        have e2 : E = 1 := by rw [HE.out, e0]
        subst e2
        have CS := sameFrames_any (ac := ac3) (bc := ac5) HR5.out.2.1.mem HR5.out.1.mem (by have := HL48.out; unfold maxLen; omega)
        rw [e1, eqFs_self, HLL.out] at CS
        have K5 : Hid (Same0 w w5) := HR5.out.2.2
        clear e0 HE e1 HM HML HR5 R4
        generalize dt.any (fun z => decide (z < 0)) = b at *
        go_wp2_with (first | (go_at_call 24; refine CS.mono ?_; rintro e w6 ⟨rfl, k6⟩))
        go_ret
        exact ⟨ret_bool (show ((dt.length : Int) != (l.length : Int) + 1) = true by simpa using q1), HB.out _ (K5.out.trans' k6)⟩
end Go.Proofs.Ytikcocjbbbdmgaa
