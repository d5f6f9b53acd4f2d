/- The walk of SpineBack: what was pushed comes out again. -/
import Derived.Test.YtikcocjbbbdmgaaSpineAwake
namespace Go.Proofs.Ytikcocjbbbdmgaa
set_option maxRecDepth 100000
set_option linter.unusedVariables false
open Go.RowKit
attribute [local go_sem ↓] Go.wp_at_zero Go.wp_at_succ
/-- A row of numbers as an argument. -/
theorem Row.argX {base : Nat} {w : World} {ao : Option Addr} {ac n : Nat} {xs : List Int} (h : Row base w (.slice ao n ac) xs) (hl : xs.length * 8 ≤ 140737488351232) : Arg w ao xs ac := by
  obtain ⟨ao', ac', e2, h1, h2⟩ := h.argS hl
  simp only [Value.slice.injEq] at e2
  obtain ⟨rfl, _, rfl⟩ := e2
  exact h1.1
/-- A call's own spine behind a Pop. -/
theorem PopQ.own {t : TypeId} {B : Nat → Prop} {w0 w w' : World} {s : Nat} {v : Value} {l0 : List Fr} {x : Fr} {bo : Option Addr} {bc : Nat} (h : PopQ t B w0.heap.size w s v l0 x bo bc w') (hk : Same0 w0 w) (p : SpT t B w0.heap.size w s v (l0 ++ [x])) : (∃ v', SpT t B w0.heap.size w' s v' l0) ∧ Same0 w0 w' ∧ Row w.heap.size w' (.slice bo x.2.2.2.length bc) x.2.2.2 ∧ Kept (fun k => k = s ∨ v.ownBlock = some k) w w' := by
  obtain ⟨q0, v', q1, _, q3⟩ := h
  refine ⟨⟨v', q1⟩, hk.trans q3 (fun i hi e => ?_), q0, q3⟩
  have := p.low
  rcases e with e | e
  · omega
  · have := (p.row.block e).1; omega
/-- What stands in a round of SpineBack: both frames that came out, and the spine without the top one. -/
theorem back_round {w1 : World} {s : Nat} {root : Int} {l : List Fr} {j : Nat} (hj : j < l.length) (hxs : l[j].2.2.2.length * 8 ≤ 140737488351232) {wr w3 w4 W3 : World} {v : Value} {bo co : Option Addr} {bc cc : Nat}
    (p : SpT 53 (fun k => w1.heap.size ≤ k) w1.heap.size wr s v (((root, true, 0, []) :: l.take j) ++ [l[j]])) (hk : Same0 w1 wr) (k3 : Same0 wr w3) (r3 : Row wr.heap.size w3 (.slice bo l[j].2.2.2.length bc) l[j].2.2.2) (hW3 : W3 = w3.alloc (.cells #[.int .i64 l[j].1, .bool l[j].2.1, .int .i64 l[j].2.2.1, .slice bo l[j].2.2.2.length bc] 30))
    (q : PopQ 53 (fun k => w1.heap.size ≤ k) w1.heap.size W3 s v ((root, true, 0, []) :: l.take j) l[j] co cc w4) {W4 : World} (hW4 : W4 = w4.alloc (.cells #[.int .i64 l[j].1, .bool l[j].2.1, .int .i64 l[j].2.2.1, .slice co l[j].2.2.2.length cc] 30)) :
    W4.heap[w3.heap.size]? = some (.cells #[.int .i64 l[j].1, .bool l[j].2.1, .int .i64 l[j].2.2.1, .slice bo l[j].2.2.2.length bc] 30 (0, 0)) ∧ W4.heap[w4.heap.size]? = some (.cells #[.int .i64 l[j].1, .bool l[j].2.1, .int .i64 l[j].2.2.1, .slice co l[j].2.2.2.length cc] 30 (0, 0)) ∧ Arg W4 bo l[j].2.2.2 bc ∧ Arg W4 co l[j].2.2.2 cc ∧ (∃ v', SpT 53 (fun k => w1.heap.size ≤ k) w1.heap.size W4 s v' ((root, true, 0, []) :: l.take j)) ∧ Same0 w1 W4 := by
  have k33 : Same0 w3 W3 := by rw [hW3]; exact (Kept.refl _ _).alloc _
  have k44 : Same0 w4 W4 := by rw [hW4]; exact (Kept.refl _ _).alloc _
  have p3 := p.same (k3.trans' k33)
  obtain ⟨⟨v', q1⟩, q2, q3, q4⟩ := q.own (hk.trans' (k3.trans' k33)) p3
  have hs := p.lt
  have hz := k3.size
  have hrow : ∀ k, v.ownBlock = some k → k < wr.heap.size := fun k e => (p.row.block e).2.1
  have hb3 : W3.heap[w3.heap.size]? = some (.cells #[.int .i64 l[j].1, .bool l[j].2.1, .int .i64 l[j].2.2.1, .slice bo l[j].2.2.2.length bc] 30 (0, 0)) := by rw [hW3]; exact heap_alloc_new w3 _
  have r4 := q4.row (k33.row r3 (fun _ _ f => f)) (fun k e f => by
    have := (r3.lt k e).1
    rcases f with f | f
    · omega
    · have := hrow k f; omega)
  refine ⟨k44.at0 (q4.at hb3 (fun f => ?_)), by rw [hW4]; exact heap_alloc_new w4 _, Row.argX (k44.row r4 (fun _ _ f => f)) hxs, Row.argX (k44.row q3 (fun _ _ f => f)) hxs, ⟨v', q1.same k44⟩, q2.trans' k44⟩
  rcases f with f | f
  · omega
  · have := hrow _ f; omega
set_option maxHeartbeats 4000000 in
theorem sback_walk {B : Nat → Prop} {w : World} (root : Int) {ao : Option Addr} {l : List Fr} (h : FsM B w ao l) (ac : Nat) (hl : l.length * 48 ≤ 140737488351232) :
    Calls Try.prog 4 #[.int .i64 root, .slice ao l.length ac] w fun e w' => e = .returned (.bool true) ∧ Below w.heap.size w w' := by
  have C0 := awake14_any w
  have HB : Hid (∀ ww, Same0 w ww → Below w.heap.size w ww) := fun ww hk => Kept.below hk (Nat.le_refl _) (fun _ _ f => f)
  have HF : Hid (∀ ww, Same0 w ww → FsM B ww ao l) := fun ww hk => h.same hk
  have HL : Hid (l.length * 48 ≤ 140737488351232) := hl
  clear h hl
  go_enter Try.func4, Try.ntmps4
  go_upto_region 2 with (first | (go_at_call 9; refine C0.mono ?_; rintro e w1 ⟨rfl, k1⟩))
  have C1 := filled_any root (HF.out w1 k1) ac HL.out
  have K1 : Hid (Same0 w w1) := k1
  clear C0 k1
  go_upto_region 3 with (first | (go_at_call 13; refine C1.mono ?_; rintro e w2 ⟨rfl, v2, p2, k2⟩))
  have C2 := slenF_any p2
  have H2 : Hid (SpT 53 (fun k => w1.heap.size ≤ k) w1.heap.size w2 w1.heap.size v2 ((root, true, 0, []) :: l.take l.length) ∧ Same0 w1 w2) := ⟨by rw [List.take_length]; exact p2, k2⟩
  have n0 : (l.length : Int) < 9223372036854775807 := by have := HL.out; omega
  have n1 : IntKind.i64.wrap ((l.length : Int) + 1) = (l.length : Int) + 1 := fwrap (by omega) (by omega)
  have n2 : IntKind.i64.wrap ((l.length : Int) - 1) = (l.length : Int) - 1 := fwrap (by omega) (by omega)
  simp only [List.length_cons] at C2
  clear p2 k2 C1
  go_upto_region 6 with (first | (go_at_call 14; refine C2.mono ?_; rintro e w3 ⟨rfl, h3⟩; have h3 := h3.symm; subst h3))
  clear C2 n1 n2
  go_loopw [7] (fun i wr => ∃ k : Nat, i = .int .i64 ((k : Int) - 1) ∧ k ≤ l.length ∧ ∃ v, Hid (SpT 53 (fun k => w1.heap.size ≤ k) w1.heap.size wr w1.heap.size v ((root, true, 0, []) :: l.take k) ∧ Same0 w1 wr)) (fun i _ => (intOf i + 1).toNat)
  case atStart => exact ⟨l.length, rfl, Nat.le_refl _, _, H2⟩
  case round =>
    clear H2
    obtain ⟨k, rfl, hk, v, HI⟩ := hrel
    cases k with
    | succ j =>
      have hj : j < l.length := by omega
      have e0 : ((j + 1 : Nat) : Int) - 1 = (j : Int) := by omega
      rw [e0]
      have HP : Hid (SpT 53 (fun k => w1.heap.size ≤ k) w1.heap.size wr w1.heap.size v (((root, true, 0, []) :: l.take j) ++ [l[j]])) := by
        have := HI.out.1
        rw [List.take_succ_eq_append_getElem hj] at this
        exact this
      have HR : Hid (Same0 w1 wr) := HI.out.2
      have C3 := top_yes HP.out
      have j0 : (0 : Int) ≤ (j : Int) := by omega
      have j1 : (j : Int) < (l.length : Int) := by omega
      have j3 : ¬ ((j : Int) < 0) := by omega
      have j2 : IntKind.i64.wrap ((j : Int) + 1) = (j : Int) + 1 := fwrap (by omega) (by omega)
      have j4 : IntKind.i64.wrap ((j : Int) - 1) = (j : Int) - 1 := fwrap (by omega) (by omega)
      clear HI e0
      go_upto_region 9 with (first | (go_at_call 15; refine C3.mono ?_; rintro e w3 ⟨bo, bc, rfl, r3, k3⟩))
      obtain ⟨W3, hW3⟩ : ∃ W3, W3 = w3.alloc (.cells #[.int .i64 l[j].1, .bool l[j].2.1, .int .i64 l[j].2.2.1, .slice bo l[j].2.2.2.length bc] 30) := ⟨_, rfl⟩
      have k33 : Same0 w3 W3 := by rw [hW3]; exact (Kept.refl _ _).alloc _
      have C4 := pop_yes (HP.out.same (k3.trans' k33))
      have HR3 : Hid (Same0 wr w3 ∧ Row wr.heap.size w3 (.slice bo l[j].2.2.2.length bc) l[j].2.2.2 ∧ W3 = w3.alloc (.cells #[.int .i64 l[j].1, .bool l[j].2.1, .int .i64 l[j].2.2.1, .slice bo l[j].2.2.2.length bc] 30)) := ⟨k3, r3, hW3⟩
      rw [← hW3]
      clear hW3 k33 r3 k3 C3
      go_upto_region 10 with (first | (go_at_call 16; refine C4.mono ?_; rintro e w4 ⟨co, cc, rfl, q4⟩))
      obtain ⟨W4, hW4⟩ : ∃ W4, W4 = w4.alloc (.cells #[.int .i64 l[j].1, .bool l[j].2.1, .int .i64 l[j].2.2.1, .slice co l[j].2.2.2.length cc] 30) := ⟨_, rfl⟩
      obtain ⟨mb, moff, xo, xc, e, -, m0, m1, m2, m3, m4, -⟩ := (HF.out wr (K1.out.trans' HR.out)).get hj
      obtain ⟨a1, a2, a3, a4, ⟨v5, a5⟩, a6⟩ := back_round hj m4.size HP.out HR.out HR3.out.1 HR3.out.2.1 HR3.out.2.2 q4 hW4
      clear m0 m1 m2 m3
      have HX : Hid (∀ ww, Same0 W4 ww → ∃ xo xc, ww.cell? ⟨mb, moff + j * 4, none⟩ = some (.int .i64 l[j].1) ∧ ww.cell? ⟨mb, moff + j * 4 + 1, none⟩ = some (.bool l[j].2.1) ∧ ww.cell? ⟨mb, moff + j * 4 + 2, none⟩ = some (.int .i64 l[j].2.2.1) ∧ ww.cell? ⟨mb, moff + j * 4 + 3, none⟩ = some (.slice xo l[j].2.2.2.length xc) ∧ Arg ww xo l[j].2.2.2 xc ∧ (ww.cell? ⟨w3.heap.size, 0, none⟩ = some (.int .i64 l[j].1) ∧ ww.cell? ⟨w3.heap.size, 1, none⟩ = some (.bool l[j].2.1) ∧ ww.cell? ⟨w3.heap.size, 2, none⟩ = some (.int .i64 l[j].2.2.1) ∧ ww.cell? ⟨w3.heap.size, 3, none⟩ = some (.slice bo l[j].2.2.2.length bc)) ∧ (ww.cell? ⟨w4.heap.size, 0, none⟩ = some (.int .i64 l[j].1) ∧ ww.cell? ⟨w4.heap.size, 1, none⟩ = some (.bool l[j].2.1) ∧ ww.cell? ⟨w4.heap.size, 2, none⟩ = some (.int .i64 l[j].2.2.1) ∧ ww.cell? ⟨w4.heap.size, 3, none⟩ = some (.slice co l[j].2.2.2.length cc)) ∧ Arg ww bo l[j].2.2.2 bc ∧ Arg ww co l[j].2.2.2 cc) := fun ww hk => by
        obtain ⟨mb', moff', xo, xc, e', -, m0, m1, m2, m3, m4, -⟩ := (HF.out ww ((K1.out.trans' a6).trans' hk)).get hj
        rw [e] at e'
        simp only [Option.some.injEq, Addr.mk.injEq, and_true] at e'
        obtain ⟨rfl, rfl⟩ := e'
        exact ⟨xo, xc, m0, m1, m2, m3, m4, box4 (hk.at0 a1), box4 (hk.at0 a2), ⟨a3.at'.same hk, a3.cap', a3.nil, a3.size⟩, ⟨a4.at'.same hk, a4.cap', a4.nil, a4.size⟩⟩
      subst e
      have HS : Hid (SpT 53 (fun k => w1.heap.size ≤ k) w1.heap.size W4 w1.heap.size v5 ((root, true, 0, []) :: l.take j) ∧ Same0 w1 W4) := ⟨a5, a6⟩
      have HE : Hid (eqF l[j] l[j] = true) := eqF_self _
      have HLN : Hid (((root, true, 0, []) :: l.take j : List Fr).length = j + 1) := by show _ = _; simp; omega
      have HW0 : Hid (Same0 W4 W4) := Kept.refl _ _
      rw [← hW4]
      clear hW4 q4 C4 HP HR HR3 a1 a2 a3 a4 a5 a6 m4
      go_cut [12] from 57 to 62 (fun s12 wc => s12 = .bool true ∧ Hid (Same0 W4 wc))
      case first =>
        obtain ⟨yo, yc, m0, m1, m2, m3, m4, ⟨f0, f1, f2, f3⟩, -, fA, -⟩ := HX.out W4.drew (HW0.out.drew)
        have CS := sameFrame_any fA m4
        rw [HE.out] at CS
        clear fA m4
        go_region_with (first | (go_at_call 17; refine CS.mono ?_; rintro e w8 ⟨rfl, k8⟩))
        all_goals
          go_wp2_with fail
          go_meet
          case rel => exact ⟨rfl, by first | exact (show Same0 W4 _ from Kept.drew HW0.out).trans' k8 | exact HW0.out.trans' k8⟩
      case rest =>
      obtain ⟨rfl, HK5⟩ := hcut
      obtain ⟨W5, hW5⟩ : ∃ W5, W5 = wc := ⟨_, rfl⟩
      rw [← hW5] at HK5 ⊢
      clear hW5
      go_upto_region 11 with fail
      go_cut [13] from 63 to 68 (fun s13 wc => s13 = .bool true ∧ Hid (Same0 W4 wc))
      case first =>
        obtain ⟨yo, yc, m0, m1, m2, m3, m4, -, ⟨f0, f1, f2, f3⟩, -, fA⟩ := HX.out W5.drew (HK5.out.drew)
        have CS := sameFrame_any fA m4
        rw [HE.out] at CS
        clear fA m4
        go_region_with (first | (go_at_call 17; refine CS.mono ?_; rintro e w8 ⟨rfl, k8⟩))
        all_goals
          go_wp2_with fail
          go_meet
          case rel => exact ⟨rfl, by first | exact (show Same0 W4 _ from Kept.drew HK5.out).trans' k8 | exact HK5.out.trans' k8⟩
      case rest =>
      obtain ⟨rfl, HK6⟩ := hcut
      obtain ⟨W6, hW6⟩ : ∃ W6, W6 = wc := ⟨_, rfl⟩
      rw [← hW6] at HK6 ⊢
      have C6 := slenF_any (HS.out.1.same HK6.out)
      rw [HLN.out] at C6
      have HN : Hid (SpT 53 (fun k => w1.heap.size ≤ k) w1.heap.size W6 w1.heap.size v5 ((root, true, 0, []) :: l.take j) ∧ Same0 w1 W6) := ⟨HS.out.1.same HK6.out, HS.out.2.trans' HK6.out⟩
      clear hW6 HX HE HLN HW0 HS HK5 HK6
      go_wp2_with (first | (go_at_call 14; refine C6.mono ?_; rintro e w9 ⟨rfl, h9⟩; have h9 := h9.symm; subst h9))
      go_roundw
      case rel => first | exact ⟨j, rfl, by omega, _, HN⟩ | ((repeat apply Exists.intro); exact ⟨⟨j, rfl, by omega, _, HN⟩, rfl⟩)
      case measure => simp [intOf]
    | zero =>
      have HP : Hid (SpT 53 (fun k => w1.heap.size ≤ k) w1.heap.size wr w1.heap.size v ([] ++ [(root, true, 0, [])])) := HI.out.1
      have HR : Hid (Same0 w1 wr) := HI.out.2
      have C3 := pop_yes HP.out
      clear HI hk
      go_upto_region 15 with (first | (go_at_call 16; refine C3.mono ?_; rintro e w3 ⟨bo, bc, rfl, q3⟩))
      obtain ⟨⟨v3, p3⟩, k3, r3, -⟩ := q3.own HR.out HP.out
      obtain ⟨W3, hW3⟩ : ∃ W3, W3 = w3.alloc (.cells #[.int .i64 root, .bool true, .int .i64 0, .slice bo 0 bc] 30) := ⟨_, rfl⟩
      have k33 : Same0 w3 W3 := by rw [hW3]; exact (Kept.refl _ _).alloc _
      obtain ⟨f0, f1, f2, f3⟩ := box4 (show W3.heap[w3.heap.size]? = some (.cells #[.int .i64 root, .bool true, .int .i64 0, .slice bo 0 bc] 30 (0, 0)) by rw [hW3]; exact heap_alloc_new w3 _)
      have CS := sameFrame_any (x := (root, true, 0, [])) (y := (root, true, 0, [])) (Row.argX (k33.row r3 (fun _ _ f => f)) (by simp)) (arg_none W3)
      rw [eqF_self] at CS
      have H3 : Hid (SpT 53 (fun k => w1.heap.size ≤ k) w1.heap.size W3 w1.heap.size v3 [] ∧ Same0 w1 W3) := ⟨p3.same k33, k3.trans' k33⟩
      have hW3' : W3 = w3.alloc (.cells #[.int .i64 root, .bool true, .int .i64 0, .slice bo ([] : List Int).length bc] 30) := hW3
      first | rw [← hW3] | rw [← hW3']
      clear hW3 hW3' k33 r3 k3 p3 q3 C3 HP HR
      go_upto_region 16 with (first | (go_at_call 17; refine CS.mono ?_; rintro e w4 ⟨rfl, k4⟩))
      have H4 : Hid (SpT 53 (fun k => w1.heap.size ≤ k) w1.heap.size w4 w1.heap.size v3 [] ∧ Same0 w1 w4) := ⟨H3.out.1.same k4, H3.out.2.trans' k4⟩
      have C4 := pop_no H4.out.1
      clear CS H3 k4 f0 f1 f2 f3
      go_upto_region 17 with (first | (go_at_call 16; refine C4.mono ?_; rintro e w5 ⟨rfl, k5⟩))
      obtain ⟨W5, hW5⟩ : ∃ W5, W5 = w5.alloc (.cells #[.int .i64 0, .bool false, .int .i64 0, .slice none 0 0] 30) := ⟨_, rfl⟩
      have k55 : Same0 w5 W5 := by rw [hW5]; exact (Kept.refl _ _).alloc _
      have H5 : Hid (SpT 53 (fun k => w1.heap.size ≤ k) w1.heap.size W5 w1.heap.size v3 [] ∧ Same0 w1 W5) := ⟨H4.out.1.same (k5.trans' k55), H4.out.2.trans' (k5.trans' k55)⟩
      have C5 := top_no H5.out.1
      rw [← hW5]
      clear hW5 k55 k5 C4 H4
      go_upto_region 18 with (first | (go_at_call 15; refine C5.mono ?_; rintro e w6 ⟨rfl, k6⟩))
      obtain ⟨W6, hW6⟩ : ∃ W6, W6 = w6.alloc (.cells #[.int .i64 0, .bool false, .int .i64 0, .slice none 0 0] 30) := ⟨_, rfl⟩
      have k66 : Same0 w6 W6 := by rw [hW6]; exact (Kept.refl _ _).alloc _
      have H6 : Hid (SpT 53 (fun k => w1.heap.size ≤ k) w1.heap.size W6 w1.heap.size v3 [] ∧ Same0 w1 W6) := ⟨H5.out.1.same (k6.trans' k66), H5.out.2.trans' (k6.trans' k66)⟩
      have C6 := turn_no H6.out.1 (0, false, 0, []) none 0
      rw [← hW6]
      clear hW6 k66 k6 C5 H5
      go_upto_region 19 with (first | (go_at_call 18; refine C6.mono ?_; rintro e w7 ⟨rfl, k7⟩))
      have H7 : Hid (SpT 53 (fun k => w1.heap.size ≤ k) w1.heap.size w7 w1.heap.size v3 [] ∧ Same0 w1 w7) := ⟨H6.out.1.same k7, H6.out.2.trans' k7⟩
      have C7 := push_any H7.out.1 (x := (3, false, 0, [])) (arg_none w7) (fun j hj => Nat.le_trans H7.out.2.size hj) (by simp)
      clear C6 k7 H6
      go_upto_region 20 with (first | (go_at_call 19; refine C7.mono ?_; rintro e w8 ⟨⟨u, rfl⟩, q8⟩))
      obtain ⟨v8, p8, k8⟩ := q8.own H7.out.2 H7.out.1
      have C8 := slenF_any p8
      have K8 : Hid (Same0 w w8) := K1.out.trans' k8
      clear p8 k8 q8 C7 H7
      go_wp2_with (first | (go_at_call 14; refine C8.mono ?_; rintro e w9 ⟨rfl, h9⟩; have h9 := h9.symm; subst h9))
      go_ret
      exact ⟨rfl, HB.out _ K8.out⟩
end Go.Proofs.Ytikcocjbbbdmgaa
