/- The walk of the head of layer 2's statements: calls whose answers the document fixes. -/
import Derived.Test.YtgoifkbdiicmkaaMade
namespace Go.Proofs.Ytgoifkbdiicmkaa
set_option linter.unusedVariables false
open Go.RowKit
attribute [local go_sem ↓] Go.wp_at_zero Go.wp_at_succ
theorem ints_new (w : World) (xs : List Int) (T : TypeId) {o : Obj} (ho : o = .cells (iv xs).toArray T (0, 0)) : IntsAt (w.alloc o) (some ⟨w.heap.size, 0, none⟩) xs := by
  subst ho
  refine .inr ⟨_, _, rfl, by simp, fun i hi => ?_⟩
  rw [Nat.zero_add, cellAt (heap_alloc_new w _)]
  simpa using iv_get hi
theorem Row.ints {base : Nat} {w : World} {v : Value} {xs : List Int} (h : Row base w v xs) : ∃ ao cap, v = .slice ao xs.length cap ∧ IntsAt w ao xs ∧ xs.length ≤ cap ∧ (∀ a, ao = some a → base ≤ a.block ∧ a.block < w.heap.size) := by
  rcases h.2 with ⟨rfl, h0⟩ | ⟨g, cap, cur, rfl, hb, hg, h1, h2, h3, h4⟩
  · have : xs = [] := List.eq_nil_of_length_eq_zero h0
    subst this
    exact ⟨none, 0, rfl, .inl rfl, Nat.le_refl _, fun a e => by cases e⟩
  · refine ⟨_, cap, rfl, .inr ⟨g, 0, rfl, lt_of_at hg, fun i hi => ?_⟩, h1, fun a e => by cases e; exact ⟨hb, lt_of_at hg⟩⟩
    rw [Nat.zero_add, h.cellAt i (by omega)]
    exact iv_get hi
theorem Same0.new {w w' : World} {o : Obj} (h : Same0 (w.alloc o) w') : Same0 w w' := Same0.trans' ((Kept.refl _ w).alloc o) h
abbrev zS : Sym := ⟨⟨#[122]⟩, 0, false⟩
theorem nm_z : nameB ⟨#[122]⟩ = true := by decide +kernel
theorem madeL_awake : madeL [zS, aS, aAdd] = [zS, aS, aAdd] := by
  simp [madeL, addL, addErr, nm_z, nm_s, nm_add, findI]
theorem syms_awake (w : World) : SymsAt (w.alloc (.cells #[.string ⟨#[122]⟩, .int .i64 0, .bool false, .string ⟨#[115]⟩, .int .i64 1, .bool false, .string ⟨#[97, 100, 100]⟩, .int .i64 2, .bool true] 61)) (some ⟨w.heap.size, 0, none⟩) 3 [zS, aS, aAdd] := by
  refine ⟨rfl, .inr ⟨_, _, rfl, by simp, fun i hi => ?_⟩, ?_⟩
  · have hi' : i < 3 := by simpa using hi
    rw [cellAt (heap_alloc_new w _), cellAt (heap_alloc_new w _), cellAt (heap_alloc_new w _)]
    match i, hi' with
    | 0, _ => exact ⟨rfl, rfl, rfl⟩
    | 1, _ => exact ⟨rfl, rfl, rfl⟩
    | 2, _ => exact ⟨rfl, rfl, rfl⟩
  · intro x hx
    simp at hx
    rcases hx with rfl | rfl | rfl <;> exact ⟨by decide +kernel, by decide +kernel⟩
abbrev L3 : List Sym := [zS, aS, aAdd]
theorem aw_end : endA L3 [2, 1, 0, -1] 1 = 3 ∧ placeE L3 [2, 1, 0, -1] 1 = 0 := by decide +kernel
theorem aw_put : putA L3 [2, 1, 0, -1] 1 [-5] = [2, -5, -1] ∧ putE L3 [2, 1, 0, -1] 1 [-5] = 0 := by decide +kernel
theorem aw_lead : leadA L3 [2, 1, 0, -1] [0, 0] = 2 ∧ leadE L3 [2, 1, 0, -1] [0, 0] = 0 := by decide +kernel
theorem aw_check : checkE L3 [2, 1, 0] = 23 := by decide +kernel
theorem aw2_end {n b : Nat} {w : World} {T : TypeId} (h : Sg n w b L3) : Calls Try.prog 22 #[.pointer (some ⟨b, 0, none⟩), .slice (some ⟨w.heap.size, 0, none⟩) 4 4, .int .i64 1] (w.alloc (.cells #[.int .i64 2, .int .i64 1, .int .i64 0, .int .i64 (-1)] T)) fun e w' => e = .returned (.tuple #[.int .i64 3, .int .i64 0]) ∧ Same0 (w.alloc (.cells #[.int .i64 2, .int .i64 1, .int .i64 0, .int .i64 (-1)] T)) w' := by
  have c := tend_any (cap := 4) (h.same ((Kept.refl _ w).alloc _)) (ints_new w [2, 1, 0, -1] T rfl) (by decide) 1
  rw [aw_end.1, aw_end.2] at c
  exact c
theorem aw2_put {n b tb : Nat} {w : World} {T : TypeId} (h : Sg n w b L3) (ht : IntsAt w (some ⟨tb, 0, none⟩) [2, 1, 0, -1]) : Calls Try.prog 28 #[.pointer (some ⟨b, 0, none⟩), .slice (some ⟨tb, 0, none⟩) 4 4, .int .i64 1, .slice (some ⟨w.heap.size, 0, none⟩) 1 1] (w.alloc (.cells #[.int .i64 (-5)] T)) fun e w' => ∃ v, e = .returned (.tuple #[v, .int .i64 0]) ∧ Row 0 w' v [2, -5, -1] ∧ Same0 (w.alloc (.cells #[.int .i64 (-5)] T)) w' := by
  have k : Same0 w (w.alloc (.cells #[.int .i64 (-5)] T)) := (Kept.refl _ w).alloc _
  have c := put_any (cap := 4) (ucap := 1) (h.same k) (ht.same k) (by decide) (by decide) (ints_new w [-5] T rfl) (by decide) 1
  rw [aw_put.1, aw_put.2] at c
  refine c.mono ?_
  rintro e w' ⟨v, he, hr, hk⟩
  exact ⟨v, he, row_mono hr (Nat.zero_le _), hk⟩
theorem aw2_lead {n b tb : Nat} {w : World} {T : TypeId} (h : Sg n w b L3) (ht : IntsAt w (some ⟨tb, 0, none⟩) [2, 1, 0, -1]) : Calls Try.prog 29 #[.pointer (some ⟨b, 0, none⟩), .slice (some ⟨tb, 0, none⟩) 4 4, .slice (some ⟨w.heap.size, 0, none⟩) 2 2] (w.alloc (.cells #[.int .i64 0, .int .i64 0] T)) fun e w' => e = .returned (.tuple #[.int .i64 2, .int .i64 0]) ∧ Same0 (w.alloc (.cells #[.int .i64 0, .int .i64 0] T)) w' := by
  have k : Same0 w (w.alloc (.cells #[.int .i64 0, .int .i64 0] T)) := (Kept.refl _ w).alloc _
  have c := place_any (cap := 4) (pcap := 2) (h.same k) (ht.same k) (by decide) (ints_new w [0, 0] T rfl) (by decide)
  rw [aw_lead.1, aw_lead.2] at c
  exact c
theorem aw2_same {w : World} {T : TypeId} {ao : Option Addr} {cap : Nat} (h : IntsAt w ao [2, -5, -1]) : Calls Try.prog 36 #[.slice ao 3 cap, .slice (some ⟨w.heap.size, 0, none⟩) 3 3] (w.alloc (.cells #[.int .i64 2, .int .i64 (-5), .int .i64 (-1)] T)) fun e w' => e = .returned (.bool true) ∧ Same0 (w.alloc (.cells #[.int .i64 2, .int .i64 (-5), .int .i64 (-1)] T)) w' := by
  have k : Same0 w (w.alloc (.cells #[.int .i64 2, .int .i64 (-5), .int .i64 (-1)] T)) := (Kept.refl _ w).alloc _
  have c := same_any (acap := cap) (bcap := 3) (h.same k) (ints_new w [2, -5, -1] T rfl) (by decide)
  exact c
theorem aw2_check {n b : Nat} {w : World} {T : TypeId} (h : Sg n w b L3) : Calls Try.prog 12 #[.pointer (some ⟨b, 0, none⟩), .slice (some ⟨w.heap.size, 0, none⟩) 3 3] (w.alloc (.cells #[.int .i64 2, .int .i64 1, .int .i64 0] T)) fun e w' => e = .returned (.int .i64 23) ∧ Same0 (w.alloc (.cells #[.int .i64 2, .int .i64 1, .int .i64 0] T)) w' := by
  have c := check_any (cap := 3) (h.same ((Kept.refl _ w).alloc _)) (ints_new w [2, 1, 0] T rfl) (by decide)
  rw [aw_check] at c
  exact c
set_option maxRecDepth 4000 in
set_option maxHeartbeats 4000000 in
theorem awake2_any (w : World) : Calls Try.prog 9 #[] w fun e w' => e = .returned (.bool true) ∧ Same0 w w' := by
  go_enter Try.func9, Try.ntmps9
  go_wp2_with fail
  refine (made_any _ _ _ _ _ (syms_awake w) (by decide)).mono ?_
  rintro e w1 ⟨b, rv, rfl, hsg, _, hk⟩
  rw [madeL_awake] at hsg
  generalize w1.heap.size = n at hsg
  have K1 : Same0 w w1 := Same0.new hk
  clear hk
  go_wp2_with fail
  refine (aw2_end hsg).mono ?_
  rintro e w2 ⟨rfl, hk⟩
  have ht : IntsAt w2 (some ⟨w1.heap.size, 0, none⟩) [2, 1, 0, -1] := (ints_new w1 [2, 1, 0, -1] _ rfl).same hk
  have K2 : Same0 w1 w2 := Same0.new hk
  have hsg2 := hsg.same K2
  have KK := K1.trans' K2
  clear hk hsg K1 K2
  generalize w1.heap.size = tb at *
  go_wp2_with fail
  refine (aw2_put hsg2 ht).mono ?_
  rintro e w3 ⟨v, rfl, hr, hk⟩
  have K3 : Same0 w2 w3 := Same0.new hk
  have ht3 := ht.same K3
  have hsg3 := hsg2.same K3
  have KK3 := KK.trans' K3
  clear hk hsg2 ht KK K3
  obtain ⟨ao, cap, rfl, hi, _, _⟩ := hr.ints
  go_wp2_with fail
  refine (aw2_lead hsg3 ht3).mono ?_
  rintro e w4 ⟨rfl, hk⟩
  have K4 : Same0 w3 w4 := Same0.new hk
  have hsg4 := hsg3.same K4
  have hi4 := hi.same K4
  have KK4 := KK3.trans' K4
  clear hk hsg3 ht3 K4 KK3 hi hr
  go_wp2_with fail
  refine (aw2_same hi4).mono ?_
  rintro e w5 ⟨rfl, hk⟩
  have K5 : Same0 w4 w5 := Same0.new hk
  have hsg5 := hsg4.same K5
  have KK5 := KK4.trans' K5
  clear hk hsg4 hi4 K5 KK4
  go_wp2_with fail
  refine (aw2_check hsg5).mono ?_
  rintro e w6 ⟨rfl, hk⟩
  have KK6 := KK5.trans' (Same0.new hk)
  clear hk hsg5
  go_wp2
  go_ret
  exact ⟨rfl, KK6⟩
end Go.Proofs.Ytgoifkbdiicmkaa
