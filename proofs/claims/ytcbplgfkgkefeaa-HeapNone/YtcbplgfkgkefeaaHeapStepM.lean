/- The walk of step of layer 11's statements: Mark. -/
import Derived.Test.YtcbplgfkgkefeaaHeapStep
namespace Go.Proofs.Ytcbplgfkgkefeaa
set_option maxRecDepth 100000
set_option linter.unusedVariables false
open Go.RowKit
attribute [local go_sem ↓] Go.wp_at_zero Go.wp_at_succ
set_option maxHeartbeats 400000 in
theorem step_mark {w : World} {h g room : Nat} {l : List Nd} (p : Hp w h g room l) (x : Raw4) (hx : x.ok) (hK : (pickF x.1 7 : Int) = 6) : Calls Try.prog 23 #[.pointer (some ⟨h, 0, none⟩), rawV x] w fun e w' => StepQ w h g room l x e w' := by
  obtain ⟨W0, hW0⟩ : ∃ W0, W0 = w.alloc (.cells #[.int .i64 x.1, .int .i64 x.2.1, .int .i64 x.2.2.1, .int .i64 x.2.2.2] 53) := ⟨_, rfl⟩
  have k0 : Same0 w W0 := by rw [hW0]; exact (Kept.refl _ w).alloc _
  have hb : W0.heap[w.heap.size]? = some (.cells #[.int .i64 x.1, .int .i64 x.2.1, .int .i64 x.2.2.1, .int .i64 x.2.2.2] 53 (0, 0)) := by rw [hW0]; exact heap_alloc_new w _
  obtain ⟨b0, b1, b2, b3⟩ := box4 hb
  have p0 := p.same k0
  have CU := used_any p0
  have hle := p.le
  have hr2 := p.rm2
  obtain ⟨n, hn⟩ : ∃ n : Nat, n = max l.length 1 := ⟨_, rfl⟩
  have HN : Hid ((if (l.length : Int) < 1 then (1 : Int) else (l.length : Int)) = (n : Int)) := by show _ = _; split <;> omega
  have hn1 : 1 ≤ (n : Int) := by omega
  have hn2 : (n : Int) ≤ 4000 := by omega
  obtain ⟨hx0, hx1, hx2, hx3⟩ := hx
  have HNN : Hid (n = max l.length 1) := hn
  have CP : Hid (∀ c ww, I64 c → Calls Try.prog 25 #[.int .i64 c, .int .i64 (n : Int)] ww fun e w' => e = .returned (.int .i64 (pickF c (n : Int) : Int)) ∧ w' = ww) := fun c ww hc => pick_any c hc (n : Int) hn1 (by omega) ww
  have HLT : Hid (∀ c, pickF c (n : Int) < n) := fun c => by have := pick_lt c (show (0 : Int) < (n : Int) by omega); omega
  have C7 := pick_any x.1 hx0 7 (by decide) (by decide) W0
  rw [hK] at C7
  have h3 : pickF x.2.2.1 3 < 3 := by have := pick_lt x.2.2.1 (show (0 : Int) < 3 by decide); omega
  have CG : Hid (∀ c m ww, I64 c → 1 ≤ m → m ≤ 4000 → Calls Try.prog 25 #[.int .i64 c, .int .i64 m] ww fun e w' => e = .returned (.int .i64 (pickF c m : Int)) ∧ w' = ww) := fun c m ww hc h1 h2 => pick_any c hc m h1 (by omega) ww
  have PQ : Hid (∀ ww, Same0 W0 ww → Calls Try.prog 32 #[.pointer (some ⟨h, 0, none⟩), .int .i64 (pickF x.2.1 (n : Int) : Int), .int .i64 (pickF x.2.2.1 3 : Int)] ww fun e w' => ∃ er l', e = .returned (.int .i64 er) ∧ Hp w' h g room l' ∧ Kept (fun k => k = h ∨ k = g) ww w' ∧ ((er ≠ 0 ∧ l' = l) ∨ (er = 0 ∧ ∃ hi : pickF x.2.1 (n : Int) < l.length, l[pickF x.2.1 (n : Int)].2.2.2.1 = false ∧ l' = l.set (pickF x.2.1 (n : Int)) (marked l[pickF x.2.1 (n : Int)] (pickF x.2.2.1 3 : Int))))) := fun ww hk => mark_q (p0.same hk) _ _ (fun m hm => by rw [hm, ← hn]; exact HLT.out _) h3
  have FIN : Hid (∀ er l', ((er ≠ 0 ∧ l' = l) ∨ (er = 0 ∧ ∃ hi : pickF x.2.1 (n : Int) < l.length, l[pickF x.2.1 (n : Int)].2.2.2.1 = false ∧ l' = l.set (pickF x.2.1 (n : Int)) (marked l[pickF x.2.1 (n : Int)] (pickF x.2.2.1 3 : Int)))) → StepR l x er l') := fun er l' hq => by
    rcases hq with q | ⟨q1, q2, q3, q4⟩
    · exact .inl q
    · have e1 := pick_of hn (by omega) x.2.1
      generalize pickF x.2.1 (n : Int) = j at *
      subst e1
      exact .inr (.inr (.inr ⟨q1, by omega, q2, q3, q4⟩))
  have K0 : Hid (Same0 w W0) := k0
  have kd : Same0 W0 W0.drew := (Kept.refl _ _).drew
  have PQd := PQ.out _ kd
  have HKD : Hid (∀ ww, Kept (fun k => k = h ∨ k = g) W0.drew ww → Kept (fun k => k = h ∨ k = g) w ww) := fun ww hk => kept_at (k0.trans' kd) hk
  clear p p0 hb hn k0 kd PQ hK HNN HLT h3
  go_enter Try.func23, Try.ntmps23
  go_upto_region 1 with fail
  rw [← hW0]
  clear hW0
  go_upto_region 2 with (first | (go_at_call 18; refine CU.mono ?_; rintro e w1 ⟨rfl, h1⟩; have h1 := h1.symm; subst h1))
  rw [HN.out]
  clear CU HN
  go_upto_region 7 with (first | (go_at_call 25; refine C7.mono ?_; rintro e w1 ⟨rfl, h1⟩; have h1 := h1.symm; subst h1))
  clear C7
  go_region_with (first | (go_at_call 25; refine (CG.out _ _ _ (by first | exact hx1 | exact hx2) (by omega) (by omega)).mono ?_; rintro e w3 ⟨rfl, h3⟩; have h3 := h3.symm; subst h3) | (go_at_call 32; refine PQd.mono ?_; rintro e w4 ⟨er, l', rfl, hp4, hk4, hq4⟩))
  all_goals
    go_wp2
    go_ret
    exact ⟨er, l', rfl, hp4, HKD.out _ hk4, FIN.out _ _ hq4⟩
end Go.Proofs.Ytcbplgfkgkefeaa
