/- The walk of the head of layer 5's statements: calls whose answers the document fixes. -/
import Derived.Test.YtbcchplcppogoaaAwake2
import Derived.Test.YtbcchplcppogoaaMatchFace
import Derived.Test.YtbcchplcppogoaaMatchApply
import Derived.Test.YtbcchplcppogoaaMatchSame
import Derived.Test.YtbcchplcppogoaaMatchSB
namespace Go.Proofs.Ytbcchplcppogoaa
set_option maxRecDepth 100000
set_option linter.unusedVariables false
open Go.RowKit
attribute [local go_sem ↓] Go.wp_at_zero Go.wp_at_succ
theorem aw5_m1 : matchE L3 [2, -1, -2] [2, 1, 0, -1] 0 = 0 ∧ (matchS L3 [2, -1, -2] [2, 1, 0, -1] 0).isSome = true ∧ matchB L3 [2, -1, -2] [2, 1, 0, -1] 0 = [(1, [1, 0]), (2, [-1])] := by decide +kernel
theorem aw5_m2 : (matchS L3 [2, -1, -1] [2, 0, -1] 0).isSome = false := by decide +kernel
theorem aw5_a : applyE L3 [2, -1, -2] [(1, [1, -2])] = 0 ∧ applyA L3 [2, -1, -2] [(1, [1, -2])] = [2, 1, -2, -2] := by decide +kernel
theorem aw5_s : alikeE L3 [2, -1, -2] [2, -7, -1] = 0 ∧ alikeB L3 [2, -1, -2] [2, -7, -1] = true := by decide +kernel
theorem ints_two (w : World) (xs ys : List Int) (T T' : TypeId) {o o' : Obj} (ho : o = .cells (iv xs).toArray T (0, 0)) (ho' : o' = .cells (iv ys).toArray T' (0, 0)) :
    IntsAt ((w.alloc o).alloc o') (some ⟨w.heap.size, 0, none⟩) xs ∧ IntsAt ((w.alloc o).alloc o') (some ⟨w.heap.size + 1, 0, none⟩) ys ∧ Same0 w ((w.alloc o).alloc o') := by
  have k1 : Same0 w (w.alloc o) := (Kept.refl _ w).alloc o
  have k2 : Same0 (w.alloc o) ((w.alloc o).alloc o') := (Kept.refl _ _).alloc o'
  refine ⟨(ints_new w xs T ho).same k2, ?_, k1.trans' k2⟩
  have := ints_new (w.alloc o) ys T' ho'
  rwa [World.size_alloc] at this
theorem aw5_match {n b : Nat} {w : World} (h : Sg n w b L3) (hn : n ≤ w.heap.size) (p t : List Int) (hp : p.length ≤ 10) (ht : t.length ≤ 10) {T T' : TypeId} {o o' : Obj} (ho : o = .cells (iv p).toArray T (0, 0)) (ho' : o' = .cells (iv t).toArray T' (0, 0)) :
    Calls Try.prog 14 #[.pointer (some ⟨b, 0, none⟩), .slice (some ⟨w.heap.size, 0, none⟩) p.length p.length, .slice (some ⟨w.heap.size + 1, 0, none⟩) t.length t.length, .int .i64 0] ((w.alloc o).alloc o') fun e w' => ∃ v l, e = .returned (.tuple #[v, .bool (matchS L3 p t 0).isSome, .int .i64 (matchE L3 p t 0)]) ∧ BOwn w.heap.size w' v l (matchB L3 p t 0) ∧ Same0 w w' := by
  obtain ⟨i1, i2, k⟩ := ints_two w p t T T' ho ho'
  refine (match_any (pcap := p.length) (cap := t.length) (h.same k) (Nat.le_trans hn k.size) i1 (by unfold maxLen; omega) i2 (by unfold maxLen; omega) (Nat.le_refl _) 0).mono ?_
  rintro e w' ⟨v, l, rfl, hB, hk⟩
  exact ⟨v, l, rfl, ⟨row_mono hB.row k.size, hB.len, fun i x y => ⟨(hB.each i x y).1, row_mono (hB.each i x y).2.1 k.size, (hB.each i x y).2.2⟩, hB.apart⟩, k.trans' hk⟩
theorem aw5_apply {n b : Nat} {w : World} (h : Sg n w b L3) {T T' : TypeId} :
    Calls Try.prog 19 #[.pointer (some ⟨b, 0, none⟩), .slice (some ⟨w.heap.size, 0, none⟩) 3 3, .slice (some ⟨w.heap.size + 1 + 1, 0, none⟩) 1 1] (((w.alloc (.cells #[.int .i64 2, .int .i64 (-1), .int .i64 (-2)] T)).alloc (.cells #[.int .i64 1, .int .i64 (-2)] T')).alloc (.cells #[.int .i64 1, .slice (some ⟨w.heap.size + 1, 0, none⟩) 2 2] 46)) fun e w' => ∃ v, e = .returned (.tuple #[v, .int .i64 0]) ∧ Row 0 w' v [2, 1, -2, -2] ∧ Same0 w w' := by
  obtain ⟨i1, i2, k⟩ := ints_two w [2, -1, -2] [1, -2] T T' rfl rfl
  have k2 := k.alloc (.cells #[.int .i64 1, .slice (some ⟨w.heap.size + 1, 0, none⟩) 2 2] 46)
  have k3 : Same0 _ (((w.alloc (.cells (iv [2, -1, -2]).toArray T (0, 0))).alloc (.cells (iv [1, -2]).toArray T' (0, 0))).alloc (.cells #[.int .i64 1, .slice (some ⟨w.heap.size + 1, 0, none⟩) 2 2] 46)) := (Kept.refl _ _).alloc _
  have e0 : ((w.alloc (.cells (iv [2, -1, -2]).toArray T (0, 0))).alloc (.cells (iv [1, -2]).toArray T' (0, 0))).heap.size = w.heap.size + 1 + 1 := by rw [World.size_alloc, World.size_alloc]
  have hb := heap_alloc_new ((w.alloc (.cells (iv [2, -1, -2]).toArray T (0, 0))).alloc (.cells (iv [1, -2]).toArray T' (0, 0))) (.cells #[.int .i64 1, .slice (some ⟨w.heap.size + 1, 0, none⟩) 2 2] 46)
  rw [e0] at hb
  have hB : BindsAt (((w.alloc (.cells (iv [2, -1, -2]).toArray T (0, 0))).alloc (.cells (iv [1, -2]).toArray T' (0, 0))).alloc (.cells #[.int .i64 1, .slice (some ⟨w.heap.size + 1, 0, none⟩) 2 2] 46)) (some ⟨w.heap.size + 1 + 1, 0, none⟩) [(1, [1, -2])] := by
    refine .inr ⟨_, _, rfl, lt_of_at hb, fun i hi => ?_⟩
    obtain rfl : i = 0 := by simpa using hi
    exact ⟨cellAt hb 0, some ⟨w.heap.size + 1, 0, none⟩, 2, cellAt hb 1, i2.same k3, Nat.le_refl _, fun e => by cases e⟩
  have c := apply_any (cap := 3) (lcap := 1) (h.same k2) (i1.same k3) (by decide) hB (by decide) (fun x hx => by simp at hx; subst hx; unfold maxLen; simp)
  rw [aw5_a.1, aw5_a.2] at c
  refine c.mono ?_
  rintro e w' ⟨v, rfl, hr, hk⟩
  exact ⟨v, rfl, row_mono hr (Nat.zero_le _), Same0.trans' k2 hk⟩
theorem aw5_same {n b : Nat} {w : World} (h : Sg n w b L3) {T T' : TypeId} :
    Calls Try.prog 22 #[.pointer (some ⟨b, 0, none⟩), .slice (some ⟨w.heap.size, 0, none⟩) 3 3, .slice (some ⟨w.heap.size + 1, 0, none⟩) 3 3] ((w.alloc (.cells #[.int .i64 2, .int .i64 (-1), .int .i64 (-2)] T)).alloc (.cells #[.int .i64 2, .int .i64 (-7), .int .i64 (-1)] T')) fun e w' => e = .returned (.tuple #[.bool true, .int .i64 0]) ∧ Same0 w w' := by
  obtain ⟨i1, i2, k⟩ := ints_two w [2, -1, -2] [2, -7, -1] T T' rfl rfl
  have c := msame_any (xc := 3) (yc := 3) (h.same k) i1 (fun e => by cases e) (by decide) i2 (fun e => by cases e) (by decide)
  rw [aw5_s.1, aw5_s.2] at c
  refine c.mono ?_
  rintro e w' ⟨rfl, hk⟩
  exact ⟨rfl, k.trans' hk⟩
theorem aw5_sb {w : World} {lo : Option Addr} {lc : Nat} (h : BindsAt w lo [(1, [1, 0]), (2, [-1])]) {T T' : TypeId} :
    Calls Try.prog 15 #[.slice lo 2 lc, .slice (some ⟨w.heap.size + 1 + 1, 0, none⟩) 2 2] (((w.alloc (.cells #[.int .i64 1, .int .i64 0] T)).alloc (.cells #[.int .i64 (-1)] T')).alloc (.cells #[.int .i64 1, .slice (some ⟨w.heap.size, 0, none⟩) 2 2, .int .i64 2, .slice (some ⟨w.heap.size + 1, 0, none⟩) 1 1] 46)) fun e w' => e = .returned (.bool true) ∧ Same0 w w' := by
  obtain ⟨i1, i2, k⟩ := ints_two w [1, 0] [-1] T T' rfl rfl
  have k3 : Same0 _ (((w.alloc (.cells (iv [1, 0]).toArray T (0, 0))).alloc (.cells (iv [-1]).toArray T' (0, 0))).alloc (.cells #[.int .i64 1, .slice (some ⟨w.heap.size, 0, none⟩) 2 2, .int .i64 2, .slice (some ⟨w.heap.size + 1, 0, none⟩) 1 1] 46)) := (Kept.refl _ _).alloc _
  have e0 : ((w.alloc (.cells (iv [1, 0]).toArray T (0, 0))).alloc (.cells (iv [-1]).toArray T' (0, 0))).heap.size = w.heap.size + 1 + 1 := by rw [World.size_alloc, World.size_alloc]
  have hb := heap_alloc_new ((w.alloc (.cells (iv [1, 0]).toArray T (0, 0))).alloc (.cells (iv [-1]).toArray T' (0, 0))) (.cells #[.int .i64 1, .slice (some ⟨w.heap.size, 0, none⟩) 2 2, .int .i64 2, .slice (some ⟨w.heap.size + 1, 0, none⟩) 1 1] 46)
  rw [e0] at hb
  have hB : BindsAt (((w.alloc (.cells (iv [1, 0]).toArray T (0, 0))).alloc (.cells (iv [-1]).toArray T' (0, 0))).alloc (.cells #[.int .i64 1, .slice (some ⟨w.heap.size, 0, none⟩) 2 2, .int .i64 2, .slice (some ⟨w.heap.size + 1, 0, none⟩) 1 1] 46)) (some ⟨w.heap.size + 1 + 1, 0, none⟩) [(1, [1, 0]), (2, [-1])] := by
    refine .inr ⟨_, _, rfl, lt_of_at hb, fun i hi => ?_⟩
    have hi' : i < 2 := by simpa using hi
    match i, hi' with
    | 0, _ => exact ⟨cellAt hb 0, some ⟨w.heap.size, 0, none⟩, 2, cellAt hb 1, i1.same k3, Nat.le_refl _, fun e => by cases e⟩
    | 1, _ => exact ⟨cellAt hb 2, some ⟨w.heap.size + 1, 0, none⟩, 1, cellAt hb 3, i2.same k3, Nat.le_refl _, fun e => by cases e⟩
  have c := sameBinds_any (acap := lc) (bcap := 2) (h.same (k.trans' k3)) hB (by decide) (fun x hx => by simp at hx; rcases hx with rfl | rfl <;> simp)
  refine c.mono ?_
  rintro e w' ⟨rfl, hk⟩
  exact ⟨rfl, (k.trans' k3).trans' hk⟩
theorem aw5_ts {w : World} {ao : Option Addr} {cap : Nat} {T : TypeId} (h : IntsAt w ao [2, 1, -2, -2]) : Calls Try.prog 20 #[.slice ao 4 cap, .slice (some ⟨w.heap.size, 0, none⟩) 4 4] (w.alloc (.cells #[.int .i64 2, .int .i64 1, .int .i64 (-2), .int .i64 (-2)] T)) fun e w' => e = .returned (.bool true) ∧ Same0 w w' := by
  have k : Same0 w (w.alloc (.cells #[.int .i64 2, .int .i64 1, .int .i64 (-2), .int .i64 (-2)] T)) := (Kept.refl _ w).alloc _
  have c := same_any (acap := cap) (bcap := 4) (h.same k) (ints_new w [2, 1, -2, -2] T rfl) (by decide)
  refine c.mono ?_
  rintro e w' ⟨rfl, hk⟩
  exact ⟨rfl, k.trans' hk⟩
set_option maxHeartbeats 4000000 in
theorem awake5_any (w : World) : Calls Try.prog 9 #[] w fun e w' => e = .returned (.bool true) ∧ Same0 w w' := by
  go_enter Try.func9, Try.ntmps9
  go_wp2_with fail
  refine (made_any _ _ _ _ _ (syms_awake w) (by decide)).mono ?_
  rintro e w1 ⟨b, rv, rfl, hsg, _, hk⟩
  rw [madeL_awake] at hsg
  obtain ⟨n, hn⟩ : ∃ n, n = w1.heap.size := ⟨_, rfl⟩
  rw [← hn] at hsg
  have hn1 : n ≤ w1.heap.size := by omega
  have K1 : Same0 w w1 := Same0.new hk
  obtain ⟨ro, rc, rfl⟩ : ∃ ro rc, rv = .slice ro 3 rc := by
    rename_i hrl
    exact row_shape hrl.1
  clear hk hn
  go_wp2_with fail
  have cm := aw5_match hsg hn1 [2, -1, -2] [2, 1, 0, -1] (by decide) (by decide) (T := 3) (T' := 3) rfl rfl
  rw [aw5_m1.1, aw5_m1.2.1, aw5_m1.2.2] at cm
  refine cm.mono ?_
  rintro e w2 ⟨v, l, rfl, hB, hk2⟩
  obtain ⟨lo, lc, rfl, hBA, _⟩ := hB.at'
  have hsg2 := hsg.same hk2
  have hn2 : n ≤ w2.heap.size := Nat.le_trans hn1 hk2.size
  have K2 := K1.trans' hk2
  clear hB hsg cm hk2 hn1 K1
  go_wp2_with fail
  have cm := aw5_match hsg2 hn2 [2, -1, -1] [2, 0, -1] (by decide) (by decide) (T := 3) (T' := 3) rfl rfl
  rw [aw5_m2] at cm
  refine cm.mono ?_
  rintro e w3 ⟨v3, l3, rfl, hB3, hk3⟩
  obtain ⟨lo3, lc3, rfl, _, _⟩ := hB3.at'
  have hsg3 := hsg2.same hk3
  have K3 := K2.trans' hk3
  have hBA3 := hBA.same hk3
  clear hB3 hsg2 cm hk3 hn2 K2 hBA
  generalize (matchB L3 [2, -1, -1] [2, 0, -1] 0).length = ll
  generalize matchE L3 [2, -1, -1] [2, 0, -1] 0 = me
  go_wp2_with fail
  refine (aw5_apply hsg3).mono ?_
  rintro e w4 ⟨v4, rfl, hr4, hk4⟩
  obtain ⟨ao4, ac4, rfl, hi4, _, _⟩ := hr4.ints
  have hsg4 := hsg3.same hk4
  have K4 := K3.trans' hk4
  have hBA4 := hBA3.same hk4
  clear hr4 hsg3 hk4 K3 hBA3
  go_wp2_with fail
  refine (aw5_same hsg4).mono ?_
  rintro e w5 ⟨rfl, hk5⟩
  have K5 := K4.trans' hk5
  have hBA5 := hBA4.same hk5
  have hi5 := hi4.same hk5
  clear hsg4 hk5 K4 hBA4 hi4
  go_wp2_with fail
  refine (aw5_sb hBA5).mono ?_
  rintro e w6 ⟨rfl, hk6⟩
  have K6 := K5.trans' hk6
  have hi6 := hi5.same hk6
  clear hk6 K5 hBA5 hi5
  go_wp2_with fail
  refine (aw5_ts hi6).mono ?_
  rintro e w7 ⟨rfl, hk7⟩
  have K7 := K6.trans' hk7
  clear hk7 K6 hi6
  go_wp2
  go_ret
  exact ⟨rfl, K7⟩
end Go.Proofs.Ytbcchplcppogoaa
