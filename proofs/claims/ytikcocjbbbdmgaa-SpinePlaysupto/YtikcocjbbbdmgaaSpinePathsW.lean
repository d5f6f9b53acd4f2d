/- The walk of SpinePaths: a frame that is pushed makes the path longer by its own. -/
import Derived.Test.YtikcocjbbbdmgaaSpineBackW
namespace Go.Proofs.Ytikcocjbbbdmgaa
set_option maxRecDepth 100000
set_option linter.unusedVariables false
open Go.RowKit
attribute [local go_sem ↓] Go.wp_at_zero Go.wp_at_succ
theorem pathsL_bound {l : List Fr} {m : Nat} (h : ∀ x ∈ l, x.2.2.2.length ≤ m) : (pathsL l).length ≤ l.length * m := by
  unfold pathsL
  induction l with
  | nil => simp
  | cons x r ih =>
    have h1 := h x (by simp)
    have h2 := ih (fun y hy => h y (by simp [hy]))
    simp only [List.map_cons, List.flatten_cons, List.length_append, List.length_cons]
    rw [Nat.add_mul]
    omega
theorem IntsAt.first {w : World} {ao : Option Addr} {xs ys : List Int} (h : IntsAt w ao (xs ++ ys)) : IntsAt w ao xs := by
  by_cases e : xs = []
  · exact .inl e
  · rcases h with q | ⟨b, off, rfl, hlt, hc⟩
    · exact absurd (List.append_eq_nil_iff.1 q).1 e
    · refine .inr ⟨b, off, rfl, hlt, fun i hi => ?_⟩
      have := hc i (by simp; omega)
      rw [List.getElem_append_left hi] at this
      exact this
theorem IntsAt.last {w : World} {g off : Nat} {xs ys : List Int} (h : IntsAt w (some ⟨g, off, none⟩) (xs ++ ys)) : IntsAt w (some ⟨g, off + xs.length, none⟩) ys := by
  by_cases e : ys = []
  · exact .inl e
  · rcases h with q | ⟨b, off', q, hlt, hc⟩
    · exact absurd (List.append_eq_nil_iff.1 q).2 e
    · simp only [Option.some.injEq, Addr.mk.injEq, and_true] at q
      obtain ⟨rfl, rfl⟩ := q
      refine .inr ⟨g, off + xs.length, rfl, hlt, fun i hi => ?_⟩
      have := hc (xs.length + i) (by simp; omega)
      rw [List.getElem_append_right (by omega)] at this
      simp only [Nat.add_sub_cancel_left] at this
      rw [Nat.add_assoc]
      exact this
theorem Row.intsX {base : Nat} {w : World} {ao : Option Addr} {n ac : Nat} {xs : List Int} (h : Row base w (.slice ao n ac) xs) : IntsAt w ao xs := by
  obtain ⟨ao', ac', e, h1, h2, h3⟩ := h.ints
  simp only [Value.slice.injEq] at e
  obtain ⟨rfl, _, rfl⟩ := e
  exact h1
set_option maxHeartbeats 4000000 in
theorem spaths_walk {B : Nat → Prop} {w : World} (root : Int) {ao : Option Addr} {l : List Fr} (h : FsM B w ao l) (ac : Nat) (hl : l.length ≤ 1048576) (hlp : ∀ x ∈ l, x.2.2.2.length ≤ 1048576) {f : Fr} {fo : Option Addr} {fc : Nat} (hf : Arg w fo f.2.2.2 fc) (hfp : f.2.2.2.length ≤ 1048576) :
    Calls Try.prog 5 #[.int .i64 root, .slice ao l.length ac, frV f fo fc] w fun e w' => e = .returned (.bool true) ∧ Below w.heap.size w w' := by
  obtain ⟨W0, hW0⟩ : ∃ W0, W0 = w.alloc (.cells #[.int .i64 f.1, .bool f.2.1, .int .i64 f.2.2.1, .slice fo f.2.2.2.length fc] 30) := ⟨_, rfl⟩
  have k0 : Same0 w W0 := by rw [hW0]; exact (Kept.refl _ w).alloc _
  have hb0 : W0.heap[w.heap.size]? = some (.cells #[.int .i64 f.1, .bool f.2.1, .int .i64 f.2.2.1, .slice fo f.2.2.2.length fc] 30 (0, 0)) := by rw [hW0]; exact heap_alloc_new w _
  have C0 := awake14_any W0
  have HB : Hid (∀ ww, Same0 W0 ww → Below w.heap.size w ww) := fun ww hk => Kept.below (k0.trans' hk) (Nat.le_refl _) (fun _ _ f => f)
  have HF : Hid (∀ ww, Same0 W0 ww → FsM B ww ao l) := fun ww hk => h.same (k0.trans' hk)
  have HA : Hid (∀ ww, Same0 W0 ww → Arg ww fo f.2.2.2 fc) := fun ww hk => ⟨hf.at'.same (k0.trans' hk), hf.cap', hf.nil, hf.size⟩
  have HX : Hid (∀ ww, Same0 W0 ww → ww.cell? ⟨w.heap.size, 0, none⟩ = some (.int .i64 f.1) ∧ ww.cell? ⟨w.heap.size, 1, none⟩ = some (.bool f.2.1) ∧ ww.cell? ⟨w.heap.size, 2, none⟩ = some (.int .i64 f.2.2.1) ∧ ww.cell? ⟨w.heap.size, 3, none⟩ = some (.slice fo f.2.2.2.length fc)) := fun ww hk => box4 (hk.at0 hb0)
  have HL : Hid (l.length * 48 ≤ 140737488351232) := by show _ ≤ _; omega
  obtain ⟨L, hL⟩ : ∃ L : List Fr, L = (root, true, 0, []) :: l := ⟨_, rfl⟩
  obtain ⟨P, hP⟩ : ∃ P, P = pathsL L := ⟨_, rfl⟩
  have HPB : P.length ≤ 1048577 * 1048576 := by
    rw [hP, hL]
    refine Nat.le_trans (pathsL_bound (m := 1048576) (fun x hx => ?_)) (Nat.mul_le_mul_right _ (by simp; omega))
    rcases List.mem_cons.1 hx with e | e
    · rw [e]; simp
    · exact hlp x e
  have HP : Hid (P = pathsL L) := hP
  have HPF : Hid (P ++ f.2.2.2 = pathsL (L ++ [f])) := by show _ = _; rw [pathsL_snoc, hP]
  have HLL : Hid (L.length * 48 ≤ 140737488355280) := by show _ ≤ _; rw [hL]; simp; omega
  clear h hf hb0 k0 hlp hP
  go_enter Try.func5, Try.ntmps5
  go_upto_region 1 with fail
  rw [← hW0]
  clear hW0
  go_upto_region 2 with (first | (go_at_call 9; refine C0.mono ?_; rintro e w1 ⟨rfl, k1⟩))
  have C1 := filled_any root (HF.out w1 k1) ac HL.out
  rw [← hL] at C1
  have K1 : Hid (Same0 W0 w1) := k1
  clear C0 k1 hL
  go_upto_region 5 with (first | (go_at_call 13; refine C1.mono ?_; rintro e w2 ⟨rfl, v2, p2, k2⟩))
  have C2 := path_any p2 (by rw [← HP.out]; omega)
  rw [← HP.out] at C2
  have P2 : Hid (SpT 53 (fun k => w1.heap.size ≤ k) w1.heap.size w2 w1.heap.size v2 L ∧ Same0 w1 w2) := ⟨p2, k2⟩
  clear C1 p2 k2
  go_upto_region 6 with (first | (go_at_call 20; refine C2.mono ?_; rintro e w3 ⟨u3, rfl, r3, k3⟩))
  have p3 := P2.out.1.same k3
  have k13 := P2.out.2.trans' k3
  have C3 := push_any p3 (HA.out w3 (K1.out.trans' k13)) (fun j hj => Nat.le_trans k13.size hj) (by have := HLL.out; omega)
  obtain ⟨f0, f1, f2, f3⟩ := HX.out w3 (K1.out.trans' k13)
  have P3 : Hid (SpT 53 (fun k => w1.heap.size ≤ k) w1.heap.size w3 w1.heap.size v2 L ∧ Same0 w1 w3 ∧ Row w2.heap.size w3 u3 P ∧ ∀ k, v2.ownBlock = some k → k < w2.heap.size) := ⟨p3, k13, r3, fun k e => (P2.out.1.row.block e).2.1⟩
  have HS2 : Hid (w1.heap.size < w2.heap.size) := P2.out.1.lt
  clear C2 k3 p3 k13 r3 P2
  go_upto_region 7 with (first | (go_at_call 19; refine C3.mono ?_; rintro e w4 ⟨⟨u, rfl⟩, q4⟩))
  obtain ⟨v4, p4, hown4, kk4⟩ := q4
  have k4 : Same0 w1 w4 := P3.out.2.1.trans kk4 (fun i hi e => by
    have := P3.out.1.low
    rcases e with e | e
    · omega
    · have := (P3.out.1.row.block e).1; omega)
  have r4 : Row w2.heap.size w4 u3 P := by
    refine kk4.row P3.out.2.2.1 (fun k e f => ?_)
    have := (P3.out.2.2.1.lt k e).1
    have := HS2.out
    rcases f with f | f
    · omega
    · have := P3.out.2.2.2 k f; omega
  have C4 := path_any p4 (by rw [← HPF.out, List.length_append]; omega)
  rw [← HPF.out] at C4
  have P4 : Hid (SpT 53 (fun k => w1.heap.size ≤ k) w1.heap.size w4 w1.heap.size v4 (L ++ [f]) ∧ Same0 w1 w4 ∧ Row w2.heap.size w4 u3 P) := ⟨p4, k4, r4⟩
  have HOW : Hid (∀ k, v4.ownBlock = some k → ∀ j, u3.ownBlock = some j → j ≠ k) := fun k e j hj => by
    have h1 := P3.out.2.2.1.lt j hj
    rcases hown4 k e with q | q
    · have := P3.out.2.2.2 k q; omega
    · omega
  clear C3 p4 k4 r4 P3 f0 f1 f2 f3 hown4 kk4
  go_upto_region 8 with (first | (go_at_call 20; refine C4.mono ?_; rintro e w5 ⟨u5, rfl, r5, k5⟩))
  have P5 : Hid (SpT 53 (fun k => w1.heap.size ≤ k) w1.heap.size w5 w1.heap.size v4 (L ++ [f]) ∧ Same0 w1 w5 ∧ Row w2.heap.size w5 u3 P) := ⟨P4.out.1.same k5, P4.out.2.1.trans' k5, k5.row P4.out.2.2 (fun _ _ f => f)⟩
  obtain ⟨uo, uc, rfl⟩ := row_shape P4.out.2.2
  obtain ⟨xo, xc, e5⟩ := row_shape r5
  rw [List.length_append] at e5
  subst e5
  have hcap : P.length + f.2.2.2.length ≤ xc := by
    rcases r5.2 with ⟨e, h0⟩ | ⟨g, cap, cur, e, _, _, hle, _⟩
    · simp only [Value.slice.injEq] at e; rw [List.length_append] at h0; omega
    · simp only [Value.slice.injEq] at e; rw [List.length_append] at hle; omega
  have hxn : (xo = none ∧ xc = 0 ∧ P.length = 0 ∧ f.2.2.2.length = 0) ∨ ∃ g, xo = some ⟨g, 0, none⟩ := by
    rcases r5.2 with ⟨e, h0⟩ | ⟨g, cap, cur, e, _⟩
    · simp only [Value.slice.injEq] at e
      rw [List.length_append] at h0
      exact .inl ⟨e.1, e.2.2, by omega, by omega⟩
    · simp only [Value.slice.injEq] at e
      exact .inr ⟨g, e.1⟩
  have HI5 : Hid (IntsAt w5 xo (P ++ f.2.2.2)) := Row.intsX r5
  obtain ⟨f0, f1, f2, f3⟩ := HX.out w5 (K1.out.trans' P5.out.2.1)
  have n1 : IntKind.i64.wrap ((P.length : Int) + (f.2.2.2.length : Int)) = (P.length : Int) + (f.2.2.2.length : Int) := fwrap (by omega) (by omega)
  have i0 : (0 : Int) ≤ (P.length : Int) := by omega
  have i1 : (P.length : Int) ≤ (xc : Int) := by omega
  have i2 : (P.length : Int) ≤ (P.length : Int) + (f.2.2.2.length : Int) := by omega
  have CS := sameInts_any xc uc (HI5.out.first) (Row.intsX P5.out.2.2) (by unfold maxLen; omega)
  have CE : eqI P P = true := by unfold eqI; simp
  rw [CE] at CS
  have HM : Hid (P.length ≤ maxLen) := by show _ ≤ _; unfold maxLen; omega
  have HMF : Hid (f.2.2.2.length ≤ maxLen) := by show _ ≤ _; unfold maxLen; omega
  clear C4 r5 k5 P4 CE
  go_upto_region 11 with (first | (go_at_call 21; refine CS.mono ?_; rintro e w6 ⟨rfl, k6⟩))
  have K6 : Hid (Same0 w5 w6) := k6
  clear CS k6 n1
  go_cut [12] from 46 to 52 (fun s12 wc => s12 = .bool true ∧ Hid (Same0 w5 wc))
  case first =>
    have kd : Same0 w5 w6.drew := K6.out.drew
    obtain ⟨f0, f1, f2, f3⟩ := HX.out w6.drew ((K1.out.trans' P5.out.2.1).trans' kd)
    have hA := HA.out w6.drew ((K1.out.trans' P5.out.2.1).trans' kd)
    have HI6 := HI5.out.same kd
    have CE : eqI f.2.2.2 f.2.2.2 = true := by unfold eqI; simp
    have j0 : (P.length : Int) ≤ ((P.length + f.2.2.2.length : Nat) : Int) := by omega
    have j1 : (((P.length : Int) + (f.2.2.2.length : Int)) - (P.length : Int)).toNat = f.2.2.2.length := by omega
    rcases hxn with ⟨rfl, rfl, hP0, hf0⟩ | ⟨g, rfl⟩
    · obtain ⟨fn, fw, fx, fp⟩ := f
      simp only at *
      obtain rfl : fp = [] := List.eq_nil_of_length_eq_zero hf0
      obtain rfl : P = [] := List.eq_nil_of_length_eq_zero hP0
      have CS := sameInts_any (xs := []) (ao := none) 0 fc (.inl rfl) hA.at' (by unfold maxLen; simp)
      rw [CE] at CS
      simp only [List.length_nil] at CS
      go_region_with (first | (go_at_call 21; refine CS.mono ?_; rintro e w8 ⟨rfl, k8⟩))
      all_goals
        go_wp2_with fail
        go_meet
        case rel => exact ⟨rfl, by first | exact (show Same0 w5 _ from kd).trans' k8 | exact K6.out.trans' k8⟩
    · by_cases hx : xc = P.length
      · obtain ⟨fn, fw, fx, fp⟩ := f
        simp only at *
        obtain rfl : fp = [] := List.eq_nil_of_length_eq_zero (by omega)
        subst hx
        have CS := sameInts_any (xs := []) (ao := some ⟨g, 0, none⟩) 0 fc (.inl rfl) hA.at' (by unfold maxLen; simp)
        rw [CE] at CS
        simp only [List.length_nil] at CS
        go_region_with (first | (go_at_call 21; refine CS.mono ?_; rintro e w8 ⟨rfl, k8⟩))
        all_goals
          go_wp2_with fail
          go_meet
          case rel => exact ⟨rfl, by first | exact (show Same0 w5 _ from kd).trans' k8 | exact K6.out.trans' k8⟩
      · have CS := sameInts_any (xs := f.2.2.2) (xc - P.length) fc HI6.last hA.at' HMF.out
        rw [CE, Nat.zero_add] at CS
        have hx' : ¬ xc = P.length := hx
        go_region_with (first | (go_at_call 21; refine CS.mono ?_; rintro e w8 ⟨rfl, k8⟩))
        all_goals
          go_wp2_with fail
          go_meet
          case rel => exact ⟨rfl, by first | exact (show Same0 w5 _ from kd).trans' k8 | exact K6.out.trans' k8⟩
  case rest =>
  obtain ⟨rfl, HK7⟩ := hcut
  obtain ⟨W7, hW7⟩ : ∃ W7, W7 = wc := ⟨_, rfl⟩
  rw [← hW7] at HK7 ⊢
  have p7 := P5.out.1.same HK7.out
  have C7 := pop_yes p7
  have P7 : Hid (SpT 53 (fun k => w1.heap.size ≤ k) w1.heap.size W7 w1.heap.size v4 (L ++ [f]) ∧ Same0 w1 W7 ∧ Row w2.heap.size W7 (.slice uo P.length uc) P) := ⟨p7, P5.out.2.1.trans' HK7.out, HK7.out.row P5.out.2.2 (fun _ _ f => f)⟩
  clear hW7 HK7 p7 f0 f1 f2 f3 HI5 hxn K6
  go_upto_region 13 with (first | (go_at_call 16; refine C7.mono ?_; rintro e w8 ⟨bo, bc, rfl, q8⟩))
  obtain ⟨⟨v8, p8⟩, k8, -, kk⟩ := q8.own P7.out.2.1 P7.out.1
  have r8 : IntsAt w8 uo P := by
    by_cases e : P = []
    · exact .inl e
    refine (Row.intsX P7.out.2.2).kept kk (fun a e f => ?_)
    have := (P7.out.2.2.lt a.block (by rw [e]; rfl)).1
    have := HS2.out
    rcases f with f | f
    · omega
    · exact HOW.out _ f a.block (by rw [e]; rfl) rfl
  have C8 := path_any p8 (by rw [← HP.out]; omega)
  rw [← HP.out] at C8
  have P8 : Hid (Same0 w1 w8 ∧ IntsAt w8 uo P) := ⟨k8, r8⟩
  have CE : eqI P P = true := by unfold eqI; simp
  have HCS : Hid (∀ w9 u9, Same0 w8 w9 → Row w8.heap.size w9 u9 P → ∃ xo xc, u9 = .slice xo P.length xc ∧ Calls Try.prog 21 #[.slice xo P.length xc, .slice uo P.length uc] w9 fun e w' => e = .returned (.bool true) ∧ Same0 w9 w') := fun w9 u9 k9 r9 => by
    obtain ⟨xo, xc, rfl⟩ := row_shape r9
    refine ⟨xo, xc, rfl, ?_⟩
    have := sameInts_any xc uc (Row.intsX r9) (P8.out.2.same k9) HM.out
    rwa [CE] at this
  clear C7 q8 P7 p8 k8 kk r8 CE
  go_wp2_with (first | (go_at_call 20; refine C8.mono ?_; rintro e w9 ⟨u9, rfl, r9, k9⟩; obtain ⟨yo, yc, rfl, CS⟩ := HCS.out w9 u9 k9 r9) | (go_at_call 21; refine CS.mono ?_; rintro e w10 ⟨rfl, k10⟩))
  go_ret
  exact ⟨rfl, HB.out _ (K1.out.trans' (P8.out.1.trans' (k9.trans' k10)))⟩
end Go.Proofs.Ytikcocjbbbdmgaa
