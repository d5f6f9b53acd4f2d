/- The walk of step of layer 11's statements. -/
import Derived.Test.YtcbplgfkgkefeaaHeapOpen
import Derived.Test.YtcbplgfkgkefeaaHeapFullW
namespace Go.Proofs.Ytcbplgfkgkefeaa
set_option maxRecDepth 100000
set_option linter.unusedVariables false
open Go.RowKit
attribute [local go_sem ↓] Go.wp_at_zero Go.wp_at_succ
/-- What a raw call answers, and what nodes there are then. -/
def StepR (l : List Nd) (x : Raw4) (er : Int) (l' : List Nd) : Prop :=
  (er ≠ 0 ∧ l' = l) ∨ (er = 0 ∧ pickF x.1 7 < 4 ∧ ∃ y, l' = l ++ [y]) ∨
  (er = 0 ∧ (pickF x.1 7 = 4 ∨ pickF x.1 7 = 5) ∧ ∃ h : pickF x.2.1 (l.length : Int) < l.length, l' = l.set (pickF x.2.1 (l.length : Int)) (indN (pickF x.2.2.1 (l.length : Int)))) ∨
  (er = 0 ∧ pickF x.1 7 = 6 ∧ ∃ h : pickF x.2.1 (l.length : Int) < l.length, l[pickF x.2.1 (l.length : Int)].2.2.2.1 = false ∧ l' = l.set (pickF x.2.1 (l.length : Int)) (marked l[pickF x.2.1 (l.length : Int)] (pickF x.2.2.1 3 : Int)))
/-- What a call of step leaves. -/
def StepQ (w : World) (h g room : Nat) (l : List Nd) (x : Raw4) (e : Ending) (w' : World) : Prop :=
  ∃ er l', e = .returned (.int .i64 er) ∧ Hp w' h g room l' ∧ Kept (fun k => k = h ∨ k = g) w w' ∧ StepR l x er l'
theorem box4 {w : World} {b : Nat} {v0 v1 v2 v3 : Value} {t : TypeId} (h : w.heap[b]? = some (.cells #[v0, v1, v2, v3] t (0, 0))) : w.cell? ⟨b, 0, none⟩ = some v0 ∧ w.cell? ⟨b, 1, none⟩ = some v1 ∧ w.cell? ⟨b, 2, none⟩ = some v2 ∧ w.cell? ⟨b, 3, none⟩ = some v3 :=
  ⟨cellAt h 0, cellAt h 1, cellAt h 2, cellAt h 3⟩
theorem kept_two {w w' : World} {h g : Nat} (k : Kept (fun k => k = g) w w') : Kept (fun k => k = h ∨ k = g) w w' := k.mono (fun _ _ e => .inr e)
theorem kept_none {w w' : World} {h g : Nat} (k : Same0 w w') : Kept (fun k => k = h ∨ k = g) w w' := k.mono (fun _ _ f => f.elim)
theorem kept_at {w w1 w2 : World} {h g : Nat} (k : Same0 w w1) (k2 : Kept (fun k => k = h ∨ k = g) w1 w2) : Kept (fun k => k = h ∨ k = g) w w2 := (kept_none k).trans k2 (fun _ _ e => e)
/-- Point at whatever two addresses. -/
theorem point_q {w : World} {h g room : Nat} {l : List Nd} (p : Hp w h g room l) (i t : Nat) (hl : ∀ n : Nat, n = max l.length 1 → i < n ∧ t < n) : Calls Try.prog 31 #[.pointer (some ⟨h, 0, none⟩), .int .i64 (i : Int), .int .i64 (t : Int)] w fun e w' =>
    ∃ er l', e = .returned (.int .i64 er) ∧ Hp w' h g room l' ∧ Kept (fun k => k = h ∨ k = g) w w' ∧ ((er ≠ 0 ∧ l' = l) ∨ (er = 0 ∧ i < l.length ∧ l' = l.set i (indN t))) := by
  have q := hl _ rfl
  by_cases h0 : l.length = 0
  · refine (point_out p (i : Int) (t : Int) (by omega)).mono ?_
    rintro e w' ⟨rfl, hk⟩
    exact ⟨112, l, rfl, p.same hk, kept_none hk, .inl ⟨by decide, rfl⟩⟩
  · refine (point_in p i t (by omega) (by omega)).mono ?_
    rintro e w' (⟨-, rfl, hk⟩ | ⟨-, rfl, hp, hk⟩)
    · exact ⟨113, l, rfl, p.same hk, kept_none hk, .inl ⟨by decide, rfl⟩⟩
    · exact ⟨0, _, rfl, hp, kept_two hk, .inr ⟨rfl, by omega, rfl⟩⟩
theorem mark_q {w : World} {h g room : Nat} {l : List Nd} (p : Hp w h g room l) (i t : Nat) (hl : ∀ n : Nat, n = max l.length 1 → i < n) (ht : t < 3) : Calls Try.prog 32 #[.pointer (some ⟨h, 0, none⟩), .int .i64 (i : Int), .int .i64 (t : Int)] w fun e w' =>
    ∃ er l', e = .returned (.int .i64 er) ∧ Hp w' h g room l' ∧ Kept (fun k => k = h ∨ k = g) w w' ∧ ((er ≠ 0 ∧ l' = l) ∨ (er = 0 ∧ ∃ hi : i < l.length, l[i].2.2.2.1 = false ∧ l' = l.set i (marked l[i] (t : Int)))) := by
  have q := hl _ rfl
  by_cases h0 : l.length = 0
  · refine (mark_out p (i : Int) (t : Int) (by omega)).mono ?_
    rintro e w' ⟨rfl, hk⟩
    exact ⟨112, l, rfl, p.same hk, kept_none hk, .inl ⟨by decide, rfl⟩⟩
  · refine (mark_in p i (by omega) (t : Int)).mono ?_
    rintro e w' (⟨he, rfl, hk⟩ | ⟨-, hp, -, -, rfl, hh, hk⟩)
    · exact ⟨_, l, rfl, p.same hk, kept_none hk, .inl ⟨he, rfl⟩⟩
    · exact ⟨0, _, rfl, hh, kept_two hk, .inr ⟨rfl, by omega, hp, rfl⟩⟩
theorem make_q {w : World} {h g room : Nat} {l : List Nd} (p : Hp w h g room l) (s : Int) {ao : Option Addr} {xs : List Int} {cap : Nat} (hx : Arg w ao xs cap) : Calls Try.prog 29 #[.pointer (some ⟨h, 0, none⟩), .int .i64 s, .slice ao xs.length cap] w fun e w' =>
    ∃ a er l', e = .returned (.tuple #[.int .i64 a, .int .i64 er]) ∧ Hp w' h g room l' ∧ Kept (fun k => k = h ∨ k = g) w w' ∧ ((er ≠ 0 ∧ l' = l) ∨ (er = 0 ∧ ∃ y, l' = l ++ [y])) := by
  by_cases h0 : mkE l room s xs = 0
  · refine (make_yes p s hx h0).mono ?_
    rintro e w' ⟨rfl, hp, hk⟩
    exact ⟨_, 0, _, rfl, hp.any, hk, .inr ⟨rfl, _, rfl⟩⟩
  · refine (make_no p s hx h0).mono ?_
    rintro e w' ⟨rfl, hk⟩
    exact ⟨_, _, l, rfl, p.same hk, kept_none hk, .inl ⟨h0, rfl⟩⟩
theorem wrap_i64 (z : Int) : I64 (IntKind.i64.wrap z) := by
  simp [IntKind.wrap, IntKind.bits, IntKind.signed]; omega
theorem pick_of {l : List Nd} {n : Nat} (hn : n = max l.length 1) (h : 0 < l.length) (c : Int) : pickF c (n : Int) = pickF c (l.length : Int) := by rw [show n = l.length by omega]
set_option maxHeartbeats 2000000 in
theorem step_point {w : World} {h g room : Nat} {l : List Nd} (p : Hp w h g room l) (x : Raw4) (hx : x.ok) (K : Int) (hK : (pickF x.1 7 : Int) = K) (hk : K = 4 ∨ K = 5) : Calls Try.prog 23 #[.pointer (some ⟨h, 0, none⟩), rawV x] w fun e w' => StepQ w h g room l x e w' := by
  obtain ⟨W0, hW0⟩ : ∃ W0, W0 = w.alloc (.cells #[.int .i64 x.1, .int .i64 x.2.1, .int .i64 x.2.2.1, .int .i64 x.2.2.2] 53) := ⟨_, rfl⟩
  have k0 : Same0 w W0 := by rw [hW0]; exact (Kept.refl _ w).alloc _
  have hb : W0.heap[w.heap.size]? = some (.cells #[.int .i64 x.1, .int .i64 x.2.1, .int .i64 x.2.2.1, .int .i64 x.2.2.2] 53 (0, 0)) := by rw [hW0]; exact heap_alloc_new w _
  obtain ⟨b0, b1, b2, b3⟩ := box4 hb
  have p0 := p.same k0
  have CU := used_any p0
  have hle := p.le
  have hr2 := p.rm2
  obtain ⟨n, hn⟩ : ∃ n : Nat, n = max l.length 1 := ⟨_, rfl⟩
  have HN : Hid ((if (l.length : Int) < 1 then (1 : Int) else (l.length : Int)) = (n : Int)) := by show _ = _; split <;> omega
  have hn1 : 1 ≤ (n : Int) := by omega
  have hn2 : (n : Int) ≤ 4000 := by omega
  obtain ⟨hx0, hx1, hx2, hx3⟩ := hx
  have HNN : Hid (n = max l.length 1) := hn
  have CP : Hid (∀ c ww, I64 c → Calls Try.prog 25 #[.int .i64 c, .int .i64 (n : Int)] ww fun e w' => e = .returned (.int .i64 (pickF c (n : Int) : Int)) ∧ w' = ww) := fun c ww hc => pick_any c hc (n : Int) hn1 (by omega) ww
  have HLT : Hid (∀ c, pickF c (n : Int) < n) := fun c => by have := pick_lt c (show (0 : Int) < (n : Int) by omega); omega
  have C7 := pick_any x.1 hx0 7 (by decide) (by decide) W0
  rw [hK] at C7
  have PQ : Hid (∀ ww, Same0 W0 ww → Calls Try.prog 31 #[.pointer (some ⟨h, 0, none⟩), .int .i64 (pickF x.2.1 (n : Int) : Int), .int .i64 (pickF x.2.2.1 (n : Int) : Int)] ww fun e w' => ∃ er l', e = .returned (.int .i64 er) ∧ Hp w' h g room l' ∧ Kept (fun k => k = h ∨ k = g) ww w' ∧ ((er ≠ 0 ∧ l' = l) ∨ (er = 0 ∧ pickF x.2.1 (n : Int) < l.length ∧ l' = l.set (pickF x.2.1 (n : Int)) (indN (pickF x.2.2.1 (n : Int)))))) := fun ww hk => point_q (p0.same hk) _ _ (fun m hm => by rw [hm, ← hn]; exact ⟨HLT.out _, HLT.out _⟩)
  have FIN : Hid (∀ er l', ((er ≠ 0 ∧ l' = l) ∨ (er = 0 ∧ pickF x.2.1 (n : Int) < l.length ∧ l' = l.set (pickF x.2.1 (n : Int)) (indN (pickF x.2.2.1 (n : Int))))) → StepR l x er l') := fun er l' hq => by
    rcases hq with q | ⟨q1, q2, q3⟩
    · exact .inl q
    · have e1 := pick_of hn (by omega) x.2.1
      have e2 := pick_of hn (by omega) x.2.2.1
      rw [e1] at q2 q3
      rw [e2] at q3
      exact .inr (.inr (.inl ⟨q1, by omega, q2, q3⟩))
  have K0 : Hid (Same0 w W0) := k0
  have kd : Same0 W0 W0.drew := (Kept.refl _ _).drew
  have PQd := PQ.out _ kd
  have HKD : Hid (∀ ww, Kept (fun k => k = h ∨ k = g) W0.drew ww → Kept (fun k => k = h ∨ k = g) w ww) := fun ww hk => kept_at (k0.trans' kd) hk
  clear p p0 hb hn k0 kd PQ hK HNN HLT
  rcases hk with rfl | rfl
  all_goals
    go_enter Try.func23, Try.ntmps23
    go_upto_region 1 with fail
    rw [← hW0]
    clear hW0
    go_upto_region 2 with (first | (go_at_call 18; refine CU.mono ?_; rintro e w1 ⟨rfl, h1⟩; have h1 := h1.symm; subst h1))
    rw [HN.out]
    clear CU HN
    go_upto_region 5 with (first | (go_at_call 25; refine C7.mono ?_; rintro e w1 ⟨rfl, h1⟩; have h1 := h1.symm; subst h1))
    clear C7
    go_region_with (first | (go_at_call 25; refine (CP.out _ _ (by first | exact hx1 | exact hx2)).mono ?_; rintro e w3 ⟨rfl, h3⟩; have h3 := h3.symm; subst h3) | (go_at_call 31; refine PQd.mono ?_; rintro e w4 ⟨er, l', rfl, hp4, hk4, hq4⟩))
    all_goals
      go_wp2
      go_ret
      exact ⟨er, l', rfl, hp4, HKD.out _ hk4, FIN.out _ _ hq4⟩
end Go.Proofs.Ytcbplgfkgkefeaa
