/- The walk of the head of layer 6's statements: calls whose answers the document fixes. -/
import Derived.Test.YthhcnllabhfejaaAwake2
import Derived.Test.YthhcnllabhfejaaUniFace
namespace Go.Proofs.Ythhcnllabhfejaa
set_option maxRecDepth 100000
set_option linter.unusedVariables false
open Go.RowKit
attribute [local go_sem ↓] Go.wp_at_zero Go.wp_at_succ
theorem aw6_o : comE L3 [2, -1, 0] [2, 1, -1, -2] 99 = 0 ∧ comT L3 [2, -1, 0] [2, 1, -1, -2] 99 = [2, 1, -1, 0] := by decide +kernel
theorem aw6_u : comE L3 [2, -1, 0] [2, 1, -1, -2] 0 = 60 ∧ comT L3 [2, -1, 0] [2, 1, -1, -2] 0 = [] := by decide +kernel
theorem aw6_c : claE L3 [1, -1] [0] = 0 ∧ claB L3 [1, -1] [0] = true := by decide +kernel
theorem ints_pair (w : World) (xs ys : List Int) (T T' : TypeId) {o o' : Obj} (ho : o = .cells (iv xs).toArray T (0, 0)) (ho' : o' = .cells (iv ys).toArray T' (0, 0)) :
    IntsAt ((w.alloc o).alloc o') (some ⟨w.heap.size, 0, none⟩) xs ∧ IntsAt ((w.alloc o).alloc o') (some ⟨w.heap.size + 1, 0, none⟩) ys ∧ Same0 w ((w.alloc o).alloc o') := by
  have k1 : Same0 w (w.alloc o) := (Kept.refl _ w).alloc o
  have k2 : Same0 (w.alloc o) ((w.alloc o).alloc o') := (Kept.refl _ _).alloc o'
  refine ⟨(ints_new w xs T ho).same k2, ?_, k1.trans' k2⟩
  have := ints_new (w.alloc o) ys T' ho'
  rwa [World.size_alloc] at this
theorem aw6_over {n b : Nat} {w : World} (h : Sg n w b L3) (hn : n ≤ w.heap.size) {T T' : TypeId} :
    Calls Try.prog 14 #[.pointer (some ⟨b, 0, none⟩), .slice (some ⟨w.heap.size, 0, none⟩) 3 3, .slice (some ⟨w.heap.size + 1, 0, none⟩) 4 4] ((w.alloc (.cells #[.int .i64 2, .int .i64 (-1), .int .i64 0] T)).alloc (.cells #[.int .i64 2, .int .i64 1, .int .i64 (-1), .int .i64 (-2)] T')) fun e w' => ∃ v, e = .returned (.tuple #[v, .int .i64 0]) ∧ Row 0 w' v [2, 1, -1, 0] ∧ Same0 w w' := by
  obtain ⟨i1, i2, k⟩ := ints_pair w [2, -1, 0] [2, 1, -1, -2] T T' rfl rfl
  have c := overlap_any (xc := 3) (yc := 4) (sg_up (h.same k) (Nat.le_trans hn k.size)) i1 i2 (by unfold maxLen; simp) (by unfold maxLen; simp)
  refine c.mono ?_
  rintro e w' ⟨v, rfl, hr, hk⟩
  have a := aw6_o
  rw [show ((99 : Nat) : Int) = 99 from rfl, a.2] at hr
  rw [show ((99 : Nat) : Int) = 99 from rfl, a.1]
  exact ⟨v, rfl, row_mono hr (Nat.zero_le _), k.trans' hk⟩
theorem aw6_uni {n b : Nat} {w : World} (h : Sg n w b L3) (hn : n ≤ w.heap.size) {T T' : TypeId} :
    Calls Try.prog 11 #[.pointer (some ⟨b, 0, none⟩), .slice (some ⟨w.heap.size, 0, none⟩) 3 3, .slice (some ⟨w.heap.size + 1, 0, none⟩) 4 4] ((w.alloc (.cells #[.int .i64 2, .int .i64 (-1), .int .i64 0] T)).alloc (.cells #[.int .i64 2, .int .i64 1, .int .i64 (-1), .int .i64 (-2)] T')) fun e w' => (∃ v, e = .returned (.tuple #[v, .int .i64 60])) ∧ Same0 w w' := by
  obtain ⟨i1, i2, k⟩ := ints_pair w [2, -1, 0] [2, 1, -1, -2] T T' rfl rfl
  have c := unify_any (xc := 3) (yc := 4) (sg_up (h.same k) (Nat.le_trans hn k.size)) i1 i2 (by unfold maxLen; simp) (by unfold maxLen; simp)
  refine c.mono ?_
  rintro e w' ⟨v, rfl, hr, hk⟩
  have a := aw6_u
  rw [show ((0 : Nat) : Int) = 0 from rfl, a.1]
  exact ⟨⟨v, rfl⟩, k.trans' hk⟩
theorem aw6_cla {n b : Nat} {w : World} (h : Sg n w b L3) (hn : n ≤ w.heap.size) {T T' : TypeId} :
    Calls Try.prog 17 #[.pointer (some ⟨b, 0, none⟩), .slice (some ⟨w.heap.size, 0, none⟩) 2 2, .slice (some ⟨w.heap.size + 1, 0, none⟩) 1 1] ((w.alloc (.cells #[.int .i64 1, .int .i64 (-1)] T)).alloc (.cells #[.int .i64 0] T')) fun e w' => e = .returned (.tuple #[.bool true, .int .i64 0]) ∧ Same0 w w' := by
  obtain ⟨i1, i2, k⟩ := ints_pair w [1, -1] [0] T T' rfl rfl
  have c := clash_any (xc := 2) (yc := 1) (sg_up (h.same k) (Nat.le_trans hn k.size)) i1 i2 (by unfold maxLen; simp) (by unfold maxLen; simp)
  rw [aw6_c.1, aw6_c.2] at c
  refine c.mono ?_
  rintro e w' ⟨rfl, hk⟩
  exact ⟨rfl, k.trans' hk⟩
theorem aw6_ts {w : World} {ao : Option Addr} {cap : Nat} {T : TypeId} (h : IntsAt w ao [2, 1, -1, 0]) : Calls Try.prog 13 #[.slice ao 4 cap, .slice (some ⟨w.heap.size, 0, none⟩) 4 4] (w.alloc (.cells #[.int .i64 2, .int .i64 1, .int .i64 (-1), .int .i64 0] T)) fun e w' => e = .returned (.bool true) ∧ Same0 w w' := by
  have k : Same0 w (w.alloc (.cells #[.int .i64 2, .int .i64 1, .int .i64 (-1), .int .i64 0] T)) := (Kept.refl _ w).alloc _
  have c := same_any (acap := cap) (bcap := 4) (h.same k) (ints_new w [2, 1, -1, 0] T rfl) (by decide)
  refine c.mono ?_
  rintro e w' ⟨rfl, hk⟩
  exact ⟨rfl, k.trans' hk⟩
set_option maxHeartbeats 4000000 in
theorem awake6_any (w : World) : Calls Try.prog 9 #[] w fun e w' => e = .returned (.bool true) ∧ Same0 w w' := by
  go_enter Try.func9, Try.ntmps9
  go_wp2_with fail
  refine (made_any _ _ _ _ _ (syms_awake w) (by decide)).mono ?_
  rintro e w1 ⟨b, rv, rfl, hsg, _, hk⟩
  rw [madeL_awake] at hsg
  obtain ⟨n, hn⟩ : ∃ n, n = w1.heap.size := ⟨_, rfl⟩
  rw [← hn] at hsg
  have hn1 : n ≤ w1.heap.size := by omega
  have K1 : Same0 w w1 := Same0.new hk
  obtain ⟨ro, rc, rfl⟩ : ∃ ro rc, rv = .slice ro 3 rc := by
    rename_i hrl
    exact row_shape hrl.1
  clear hk hn
  go_wp2_with fail
  refine (aw6_over hsg hn1).mono ?_
  rintro e w2 ⟨v2, rfl, hr2, hk2⟩
  obtain ⟨ao2, ac2, rfl, hi2, _, _⟩ := hr2.ints
  have hsg2 := hsg.same hk2
  have hn2 : n ≤ w2.heap.size := Nat.le_trans hn1 hk2.size
  have K2 := K1.trans' hk2
  clear hr2 hsg hk2 K1 hn1
  go_wp2_with fail
  refine (aw6_uni hsg2 hn2).mono ?_
  rintro e w3 ⟨⟨v3, rfl⟩, hk3⟩
  have hsg3 := hsg2.same hk3
  have hn3 : n ≤ w3.heap.size := Nat.le_trans hn2 hk3.size
  have K3 := K2.trans' hk3
  have hi3 := hi2.same hk3
  clear hsg2 hk3 K2 hi2 hn2
  go_wp2_with fail
  refine (aw6_cla hsg3 hn3).mono ?_
  rintro e w4 ⟨rfl, hk4⟩
  have K4 := K3.trans' hk4
  have hi4 := hi3.same hk4
  clear hsg3 hk4 K3 hi3 hn3
  go_wp2_with fail
  refine (aw6_ts hi4).mono ?_
  rintro e w5 ⟨rfl, hk5⟩
  have K5 := K4.trans' hk5
  clear hk5 K4 hi4
  go_wp2
  go_ret
  exact ⟨rfl, K5⟩
end Go.Proofs.Ythhcnllabhfejaa
