/- The walk of step of layer 11's statements: Make. -/
import Derived.Test.YtcbplgfkgkefeaaHeapStep
namespace Go.Proofs.Ytcbplgfkgkefeaa
set_option maxRecDepth 100000
set_option linter.unusedVariables false
open Go.RowKit
attribute [local go_sem ↓] Go.wp_at_zero Go.wp_at_succ
theorem wrap64_i64 (z : Int) : I64 (wrap64 z) := by
  unfold wrap64; omega
set_option maxHeartbeats 400000 in
theorem step_make {w : World} {h g room : Nat} {l : List Nd} (p : Hp w h g room l) (x : Raw4) (hx : x.ok) (K : Nat) (hK : pickF x.1 7 = K) (hk : K < 4) : Calls Try.prog 23 #[.pointer (some ⟨h, 0, none⟩), rawV x] w fun e w' => StepQ w h g room l x e w' := by
  obtain ⟨W0, hW0⟩ : ∃ W0, W0 = w.alloc (.cells #[.int .i64 x.1, .int .i64 x.2.1, .int .i64 x.2.2.1, .int .i64 x.2.2.2] 53) := ⟨_, rfl⟩
  have k0 : Same0 w W0 := by rw [hW0]; exact (Kept.refl _ w).alloc _
  have hb : W0.heap[w.heap.size]? = some (.cells #[.int .i64 x.1, .int .i64 x.2.1, .int .i64 x.2.2.1, .int .i64 x.2.2.2] 53 (0, 0)) := by rw [hW0]; exact heap_alloc_new w _
  obtain ⟨b0, b1, b2, b3⟩ := box4 hb
  have p0 := p.same k0
  have CU := used_any p0
  have hle := p.le
  have hr2 := p.rm2
  obtain ⟨n, hn⟩ : ∃ n : Nat, n = max l.length 1 := ⟨_, rfl⟩
  have HN : Hid ((if (l.length : Int) < 1 then (1 : Int) else (l.length : Int)) = (n : Int)) := by show _ = _; split <;> omega
  have hn1 : 1 ≤ (n : Int) := by omega
  have hn2 : (n : Int) ≤ 4000 := by omega
  obtain ⟨hx0, hx1, hx2, hx3⟩ := hx
  have HNN : Hid (n = max l.length 1) := hn
  have CP : Hid (∀ c ww, I64 c → Calls Try.prog 25 #[.int .i64 c, .int .i64 (n : Int)] ww fun e w' => e = .returned (.int .i64 (pickF c (n : Int) : Int)) ∧ w' = ww) := fun c ww hc => pick_any c hc (n : Int) hn1 (by omega) ww
  have HLT : Hid (∀ c, pickF c (n : Int) < n) := fun c => by have := pick_lt c (show (0 : Int) < (n : Int) by omega); omega
  have C7 := pick_any x.1 hx0 7 (by decide) (by decide) W0
  rw [hK] at C7
  have h4 : pickF x.2.2.2 4 < 4 := by have := pick_lt x.2.2.2 (show (0 : Int) < 4 by decide); omega
  have CG : Hid (∀ c m ww, I64 c → 1 ≤ m → m ≤ 4000 → Calls Try.prog 25 #[.int .i64 c, .int .i64 m] ww fun e w' => e = .returned (.int .i64 (pickF c m : Int)) ∧ w' = ww) := fun c m ww hc h1 h2 => pick_any c hc m h1 (by omega) ww
  have MQ : Hid (∀ ww, Same0 W0 ww → ∀ s ao xs cap, Arg ww ao xs cap → Calls Try.prog 29 #[.pointer (some ⟨h, 0, none⟩), .int .i64 s, .slice ao xs.length cap] ww fun e w' => ∃ a er l', e = .returned (.tuple #[.int .i64 a, .int .i64 er]) ∧ Hp w' h g room l' ∧ Kept (fun k => k = h ∨ k = g) ww w' ∧ ((er ≠ 0 ∧ l' = l) ∨ (er = 0 ∧ ∃ y, l' = l ++ [y]))) := fun ww hk s ao xs cap ha => make_q (p0.same hk) s ha
  have FIN : Hid (∀ er l', ((er ≠ 0 ∧ l' = l) ∨ (er = 0 ∧ ∃ y, l' = l ++ [y])) → StepR l x er l') := fun er l' hq => by
    rcases hq with q | ⟨q1, q2⟩
    · exact .inl q
    · exact .inr (.inl ⟨q1, by omega, q2⟩)
  have HU : Hid (∀ ww, Same0 W0 ww → Calls Try.prog 18 #[.pointer (some ⟨h, 0, none⟩)] ww fun e w' => e = .returned (.int .i64 (l.length : Int)) ∧ w' = ww) := fun ww hk => used_any (p0.same hk)
  have HB4 : Hid (∀ ww, Same0 W0 ww → ww.cell? ⟨w.heap.size, 0, none⟩ = some (.int .i64 x.1) ∧ ww.cell? ⟨w.heap.size, 1, none⟩ = some (.int .i64 x.2.1) ∧ ww.cell? ⟨w.heap.size, 2, none⟩ = some (.int .i64 x.2.2.1) ∧ ww.cell? ⟨w.heap.size, 3, none⟩ = some (.int .i64 x.2.2.2)) := fun ww hk => box4 (hk.at0 hb)
  have HKD : Hid (∀ w1 ww, Same0 W0 w1 → Kept (fun k => k = h ∨ k = g) w1 ww → Kept (fun k => k = h ∨ k = g) w ww) := fun w1 ww h1 hk => kept_at (k0.trans' h1) hk
  have e4 : ((K : Int) == 4) = false := by simp; omega
  have e5 : ((K : Int) == 5) = false := by simp; omega
  have e6 : ((K : Int) == 6) = false := by simp; omega
  have M0 : (pickF x.2.2.2 4 : Int) ≤ 3 := by omega
  have l0 : (0 : Int) ≤ (l.length : Int) := by omega
  have l1 : (l.length : Int) ≤ 4000 := by omega
  have KR : Same0 W0 W0 := Kept.refl _ _
  have HLI : Hid (∀ c, ((pickF c (n : Int) : Nat) : Int) < (n : Int)) := fun c => by have := HLT.out c; omega
  clear p p0 hb hn k0 hK HNN HLT
  go_enter Try.func23, Try.ntmps23
  go_upto_region 1 with fail
  rw [← hW0]
  clear hW0
  go_upto_region 2 with (first | (go_at_call 18; refine CU.mono ?_; rintro e w1 ⟨rfl, h1⟩; have h1 := h1.symm; subst h1))
  rw [HN.out]
  clear CU HN
  go_upto_region 10 with (first | (go_at_call 25; refine C7.mono ?_; rintro e w1 ⟨rfl, h1⟩; have h1 := h1.symm; subst h1))
  clear C7 e4 e5 e6 b0 b1 b2 b3
  go_loopw [6, 7] (fun v i wr => ∃ (k : Nat) (xs : List Int), i = .int .i64 (k : Int) ∧ k ≤ 3 ∧ xs.length = k ∧ Row W0.heap.size wr v xs ∧ Same0 W0 wr) (fun _ i _ => 4 - (intOf i).toNat)
  case atStart => exact ⟨0, [], rfl, by omega, rfl, World.ownsRow_nil _ _ _ _, KR⟩
  case round =>
    clear KR
    obtain ⟨k, xs, rfl, hk3, hxl, hrow, hw⟩ := hrel
    subst hxl
    obtain ⟨ao, ac, rfl⟩ := row_shape hrow
    obtain ⟨b0, b1, b2, b3⟩ := HB4.out wr hw
    have CU := HU.out wr hw
    have hsz := hw.size
    by_cases hm : xs.length < pickF x.2.2.2 4 ∧ 0 < l.length
    · obtain ⟨m1, m2⟩ := hm
      have j1 : (xs.length : Int) < (pickF x.2.2.2 4 : Int) := by omega
      have j2 : (0 : Int) < (l.length : Int) := by omega
      go_wp2_with (first | (go_at_call 25; refine (CG.out _ _ _ (by first | exact hx3 | exact wrap64_i64 _ | exact wrap_i64 _) (by omega) (by omega)).mono ?_; rintro e w3 ⟨rfl, h3⟩; have h3 := h3.symm; subst h3) | (go_at_call 18; refine CU.mono ?_; rintro e w3 ⟨rfl, h3⟩; have h3 := h3.symm; subst h3) | (at_builtin; refine wpList_push rfl _ _ 31 rfl Try.underlying31 W0.heap.size xs _ rfl hrow _ rfl hsz (by omega) ?_; intro g4 cap4 w4 hr4 hk4 hor))
      have hk5 : Same0 W0 w4 := hw.onto hrow hk4
      go_roundw
      case rel => first | exact ⟨xs.length + 1, _, by go_num, by omega, by simp, hr4, hk5⟩ | ((repeat apply Exists.intro); exact ⟨⟨xs.length + 1, _, by go_num, by omega, by simp, hr4, hk5⟩, rfl⟩)
      case measure => simp [intOf]; omega
    · obtain ⟨ao', ac', e, ha, -⟩ := hrow.arg (by omega)
      cases e
      have MK := MQ.out wr hw (pickF x.2.1 100 : Int) ao xs ac ha.1
      have j1 : decide ((xs.length : Int) < (pickF x.2.2.2 4 : Int)) = false ∨ (l.length : Int) = 0 := by
        by_cases q : xs.length < pickF x.2.2.2 4
        · right; omega
        · left; simp; omega
      clear hm
      rcases j1 with j1 | j1
      · have j2 : ¬ (xs.length : Int) < (pickF x.2.2.2 4 : Int) := by simpa using j1
        go_wp2_with (first | (go_at_call 25; refine (CG.out _ _ _ (by first | exact hx3 | exact hx1) (by omega) (by omega)).mono ?_; rintro e w3 ⟨rfl, h3⟩; have h3 := h3.symm; subst h3) | (go_at_call 29; refine MK.mono ?_; rintro e w4 ⟨a, er, l', rfl, hp4, hk4, hq4⟩))
        go_ret
        exact ⟨er, l', rfl, hp4, HKD.out _ _ hw hk4, FIN.out _ _ hq4⟩
      · rw [j1] at CU
        clear j1
        go_wp2_with (first | (go_at_call 25; refine (CG.out _ _ _ (by first | exact hx3 | exact hx1) (by omega) (by omega)).mono ?_; rintro e w3 ⟨rfl, h3⟩; have h3 := h3.symm; subst h3) | (go_at_call 18; refine CU.mono ?_; rintro e w3 ⟨rfl, h3⟩; have h3 := h3.symm; subst h3) | (go_at_call 29; refine MK.mono ?_; rintro e w4 ⟨a, er, l', rfl, hp4, hk4, hq4⟩))
        all_goals
          go_ret
          exact ⟨er, l', rfl, hp4, HKD.out _ _ hw hk4, FIN.out _ _ hq4⟩
end Go.Proofs.Ytcbplgfkgkefeaa
