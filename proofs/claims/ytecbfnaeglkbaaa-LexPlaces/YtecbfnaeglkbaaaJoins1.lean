/- The walk of LexJoins where a text is refused: two texts with a line feed between. -/
import Derived.Test.YtecbfnaeglkbaaaLexTSame
import Derived.Test.YtecbfnaeglkbaaaLexAwake
namespace Go.Proofs.Ytecbfnaeglkbaaa
open Go.RowKit
set_option linter.unusedVariables false
theorem fault_nil_ne (W : World) (v : Value) : (binOp .neq 27 (.iface 30 v) .nilIface).run Try.prog W = .ok (.bool true) W := by kernel_rfl
theorem nil_nil_ne (W : World) : (binOp .neq 27 .nilIface .nilIface).run Try.prog W = .ok (.bool false) W := by kernel_rfl
theorem assert_nil (W : World) : (Instr.typeAssert .nilIface 27 30 true).run Try.prog W = .ok (.tuple #[.pointer none, .bool false]) W := by kernel_rfl
set_option maxRecDepth 100000 in
set_option maxHeartbeats 1000000 in
theorem joins_long (a : ByteArray) (ha : a.size ≤ maxLen) (b : ByteArray) (hb : b.size ≤ maxLen) (w : World) (hl : 20000 < a.size ∨ 20000 < b.size ∨ 20000 < a.size + 1 + b.size) : Calls Try.prog 5 #[.string a, .string b] w fun e w' => e = .returned (.bool true) ∧ Below w.heap.size w w' := by
  unfold maxLen at ha hb
  by_cases h1 : 20000 < a.size
  · have d1 : (20000 : Int) < (a.size : Int) := by omega
    go_enter Try.func5, Try.ntmps5
    go_wp2_with (go_at_call 7; refine (awake_any _).mono ?_; rintro e w1 ⟨rfl, k1⟩)
    go_ret
    exact ⟨rfl, k1.below⟩
  · have d1 : decide ((20000 : Int) < (a.size : Int)) = false := by simp; omega
    have d1' : ((20000 : Int) < (a.size : Int)) = False := by simp; omega
    by_cases h2 : 20000 < b.size
    · have d2 : (20000 : Int) < (b.size : Int) := by omega
      go_enter Try.func5, Try.ntmps5
      go_wp2_with (go_at_call 7; refine (awake_any _).mono ?_; rintro e w1 ⟨rfl, k1⟩)
      go_ret
      exact ⟨rfl, k1.below⟩
    · have d2 : decide ((20000 : Int) < (b.size : Int)) = false := by simp; omega
      have d2' : ((20000 : Int) < (b.size : Int)) = False := by simp; omega
      have d3 : (20000 : Int) < (a.size : Int) + 1 + (b.size : Int) := by omega
      go_enter Try.func5, Try.ntmps5
      go_wp2_with (go_at_call 7; refine (awake_any _).mono ?_; rintro e w1 ⟨rfl, k1⟩)
      go_ret
      exact ⟨rfl, k1.below⟩
/-- All places lie in the text; there is an End. -/
def Within (n : Nat) (R : Except (Nat × Nat) (List Tok)) : Prop := match R with
  | .ok l => l ≠ [] ∧ l.length ≤ 20001 ∧ ∀ x ∈ l, x.at' ≤ n
  | .error e => e.2 ≤ n
theorem lexF_at (n : Nat) : ∀ (a : Nat) (t : List UInt8), t.length ≤ n → match lexF a t with | .ok l => (∀ x ∈ l, x.at' ≤ a + t.length) | .error e => e.2 ≤ a + t.length := by
  induction n with
  | zero =>
    intro a t h
    have : t = [] := List.eq_nil_of_length_eq_zero (by omega)
    subst this
    rw [lexF_nil]
    intro x hx
    simp at hx; subst hx; simp
  | succ n ih =>
    intro a t h
    cases t with
    | nil =>
      rw [lexF_nil]
      intro x hx
      simp at hx; subst hx; simp
    | cons b r =>
      simp only [List.length_cons] at h
      by_cases h1 : blankB b = true
      · have := ih (a + 1) r (by omega)
        rw [lexF_blank h1]
        cases hx : lexF (a + 1) r with
        | ok l => rw [hx] at this; intro x hm; have := this x hm; simp only [List.length_cons]; omega
        | error e => rw [hx] at this; simp only [List.length_cons] at this ⊢; omega
      · have h1 : blankB b = false := by simpa using h1
        by_cases h2 : b = 37
        · subst h2
          have e1 := congrArg List.length (List.takeWhile_append_dropWhile (p := fun x : UInt8 => decide (x ≠ 10)) (l := r))
          rw [List.length_append] at e1
          have := ih (a + (1 + (r.takeWhile (fun x => decide (x ≠ 10))).length)) (r.dropWhile (fun x => decide (x ≠ 10))) (by omega)
          rw [lexF_comment]
          cases hx : lexF (a + (1 + (r.takeWhile (fun x => decide (x ≠ 10))).length)) (r.dropWhile (fun x => decide (x ≠ 10))) with
          | ok l => rw [hx] at this; intro x hm; have := this x hm; simp only [List.length_cons]; omega
          | error e => rw [hx] at this; simp only [List.length_cons] at this ⊢; omega
        · by_cases h3 : beginsK b r = 0
          · rw [lexF_none h1 h2 h3]; simp
          · by_cases h4 : wrongK (beginsK b r) (lenK (beginsK b r) r) b = 0
            · have hle := lenK_le (b := b) (r := r)
              have hpos := lenK_pos (beginsK b r) r
              have := ih (a + lenK (beginsK b r) r) (r.drop (lenK (beginsK b r) r - 1)) (by simp; omega)
              rw [lexF_tok h1 h2 h3 h4]
              cases hx : lexF (a + lenK (beginsK b r) r) (r.drop (lenK (beginsK b r) r - 1)) with
              | error e => rw [hx] at this; simp only [Except.map, List.length_cons, List.length_drop] at this ⊢; omega
              | ok m =>
                rw [hx] at this
                simp only [Except.map]
                intro x hm
                rcases List.mem_cons.1 hm with rfl | hm
                · simp
                · have := this x hm; simp only [List.length_cons, List.length_drop] at this ⊢; omega
            · rw [lexF_wrong h1 h2 h3 h4]; simp
theorem lexF_within {s : ByteArray} (h : s.size ≤ 20000) : Within s.size (lexF 0 s.data.toList) := by
  have h1 := lexF_at _ 0 s.data.toList (Nat.le_refl _)
  have e := size_list s
  cases hx : lexF 0 s.data.toList with
  | error e => rw [hx] at h1; simp only [Nat.zero_add] at h1; unfold Within; simp only; omega
  | ok l =>
    rw [hx] at h1
    have h2 := lexF_len _ _ _ _ (Nat.le_refl _) hx
    refine ⟨lexF_ne _ _ _ _ (Nat.le_refl _) hx, by omega, fun x hm => ?_⟩
    have := h1 x hm
    omega
theorem join_scan {a b c : ByteArray} (hc : c.data.toList = a.data.toList ++ 10 :: b.data.toList) (h : a.size + 1 + b.size ≤ 20000) : scanL c.data.toList = joinR (lexF 0 a.data.toList) (shiftR (a.size + 1) (lexF 0 b.data.toList)) := by
  unfold scanL
  have e1 := size_list a
  have e2 := size_list b
  rw [if_neg (by rw [hc]; simp only [List.length_append, List.length_cons]; omega), hc, lexF_join _ _ _ _ (Nat.le_refl _)]
  congr 1
  have := lexF_shift (a.size + 1) _ 0 b.data.toList (Nat.le_refl _)
  rw [← this]
  congr 1
theorem scan_le {a : ByteArray} (h : a.size ≤ 20000) : scanL a.data.toList = lexF 0 a.data.toList := by
  unfold scanL
  rw [if_neg (by rw [← size_list]; omega)]
/-- Same, asked of a Fault and of what was laid ahead of it. -/
theorem fault_call {w5 : World} {base : Nat} {er : Value} {c p : Nat} (hf : FaultAt base w5 er c p) {cz pz : Int} (hc : cz = (c : Int)) (hp : pz = (p : Int)) :
    Calls Try.prog 10 #[er, .slice (some ⟨w5.heap.size, 0, none⟩) 1 1] (w5.alloc (.cells #[.int .i64 cz, .int .i64 pz] 37)).drew fun e w' => e = .returned (.bool true) ∧ Same0 w5 w' := by
  subst hc hp
  refine (same_fault (hf.same (Kept.drew (Kept.alloc (Kept.refl _ _) _))) ⟨_, rfl, heap_alloc_new w5 _⟩).mono ?_
  rintro e w' ⟨rfl, k⟩
  exact ⟨rfl, Same0.trans' (Kept.drew (Kept.alloc (Kept.refl _ _) _)) k⟩
set_option maxRecDepth 100000 in
set_option maxHeartbeats 2000000 in
theorem joins_e1a (a b : ByteArray) (w : World) (h : a.size + 1 + b.size ≤ 20000) {c p c2 p2 : Nat} (hRa : lexF 0 a.data.toList = .error (c, p)) (hRb : lexF 0 b.data.toList = .error (c2, p2)) : Calls Try.prog 5 #[.string a, .string b] w fun e w' => e = .returned (.bool true) ∧ Below w.heap.size w w' := by
  have m1 : a.size ≤ maxLen := by unfold maxLen; omega
  have m2 : b.size ≤ maxLen := by unfold maxLen; omega
  have hcat : (a ++ ⟨#[10]⟩ ++ b : ByteArray).data.toList = a.data.toList ++ 10 :: b.data.toList := by simp
  have m3 : (a ++ ⟨#[10]⟩ ++ b : ByteArray).size ≤ maxLen := by rw [size_list, hcat]; simp only [List.length_append, List.length_cons, ← size_list]; unfold maxLen; omega
  have d1 : decide ((20000 : Int) < (a.size : Int)) = false := by simp; omega
  have d1' : ((20000 : Int) < (a.size : Int)) = False := by simp; omega
  have d2 : decide ((20000 : Int) < (b.size : Int)) = false := by simp; omega
  have d2' : ((20000 : Int) < (b.size : Int)) = False := by simp; omega
  have d3 : decide ((20000 : Int) < (a.size : Int) + 1 + (b.size : Int)) = false := by simp; omega
  have d3' : ((20000 : Int) < (a.size : Int) + 1 + (b.size : Int)) = False := by simp; omega
  go_enter Try.func5, Try.ntmps5
  go_upto_region 5 with (first | (go_at_call 7; refine (awake_any _).mono ?_; rintro e w1 ⟨rfl, k1⟩) | (go_at_call 9; refine (scan_any _ _ m1).mono ?_; rintro e w2 ⟨x, ea, rfl, t2, k2⟩))
  go_upto_region 6 with (go_at_call 9; refine (scan_any _ _ m2).mono ?_; rintro e w3 ⟨y, eb, rfl, t3, k3⟩)
  go_upto_region 7 with (go_at_call 9; refine (scan_any _ _ m3).mono ?_; rintro e w4 ⟨z, eg, rfl, t4, k4⟩)
  have T1 := (t2.same k3).same k4
  have T2 := t3.same k4
  have T3 := t4
  rw [scan_le (by omega)] at T1 T2
  rw [join_scan hcat h] at T3
  have K4 : Same0 w w4 := ((k1.trans' k2).trans' k3).trans' k4
  have z3 : w2.heap.size ≤ w3.heap.size := k3.size
  clear t2 t3 t4 k1 k2 k3 k4
  have WA := lexF_within (s := a) (by omega)
  have WB := lexF_within (s := b) (by omega)
  rw [hRa] at T1 T3 WA
  rw [hRb] at T2 T3 WB
  obtain ⟨rfl, b1, rfl, _, hb1⟩ := T1
  obtain ⟨rfl, hfz⟩ := T3
  have HZ : Hid (FaultAt w3.heap.size w4 eg c p) := hfz
  obtain ⟨b3, rfl, _, hb3⟩ := hfz
  have q0 := cellAt hb1 0
  have q1 := cellAt hb1 1
  simp only [List.getElem?_toArray, List.getElem?_cons_zero, List.getElem?_cons_succ] at q0 q1
  have hta := fun W v => assert_fault W v
  have hfn := fun W v => fault_nil W v
  have hnn := fun W => nil_nil W
  have hfne := fun W v => fault_nil_ne W v
  have hnne := fun W => nil_nil_ne W
  clear hb1 hb3 WA WB
  obtain ⟨rfl, b2, rfl, _, _⟩ := T2
  go_quiet (fail)
  go_wp2
  clear hta hfn hnn hfne hnne
  obtain ⟨w5, hw5⟩ : ∃ w5, w4.drewN nq = w5 := ⟨_, rfl⟩
  have q0' : w5.cell? ⟨b1, 0, none⟩ = some (.int .i64 (c : Int)) := by rw [← hw5]; exact q0
  have q1' : w5.cell? ⟨b1, 1, none⟩ = some (.int .i64 (p : Int)) := by rw [← hw5]; exact q1
  have HZ5 : FaultAt w3.heap.size w5 (.iface 30 (.pointer (some ⟨b3, 0, none⟩))) c p := by rw [← hw5]; exact HZ.out.same ((Kept.refl _ _).drewN nq)
  have K5 : Same0 w w5 := by rw [← hw5]; exact Kept.drewN K4 nq
  rw [hw5]
  clear hw5 q0 q1 HZ K4
  have cS := fault_call HZ5 (cz := (c : Int)) (pz := (p : Int)) rfl rfl
  clear HZ5
  go_region_with (go_at_call 10; refine cS.mono ?_; rintro e w6 ⟨rfl, k6⟩)
  all_goals
    go_wp2
    go_ret
    exact ⟨rfl, (K5.trans' k6).below⟩
set_option maxRecDepth 100000 in
set_option maxHeartbeats 2000000 in
theorem joins_e1b (a b : ByteArray) (w : World) (h : a.size + 1 + b.size ≤ 20000) {c p : Nat} {m : List Tok} (hRa : lexF 0 a.data.toList = .error (c, p)) (hRb : lexF 0 b.data.toList = .ok m) : Calls Try.prog 5 #[.string a, .string b] w fun e w' => e = .returned (.bool true) ∧ Below w.heap.size w w' := by
  have m1 : a.size ≤ maxLen := by unfold maxLen; omega
  have m2 : b.size ≤ maxLen := by unfold maxLen; omega
  have hcat : (a ++ ⟨#[10]⟩ ++ b : ByteArray).data.toList = a.data.toList ++ 10 :: b.data.toList := by simp
  have m3 : (a ++ ⟨#[10]⟩ ++ b : ByteArray).size ≤ maxLen := by rw [size_list, hcat]; simp only [List.length_append, List.length_cons, ← size_list]; unfold maxLen; omega
  have d1 : decide ((20000 : Int) < (a.size : Int)) = false := by simp; omega
  have d1' : ((20000 : Int) < (a.size : Int)) = False := by simp; omega
  have d2 : decide ((20000 : Int) < (b.size : Int)) = false := by simp; omega
  have d2' : ((20000 : Int) < (b.size : Int)) = False := by simp; omega
  have d3 : decide ((20000 : Int) < (a.size : Int) + 1 + (b.size : Int)) = false := by simp; omega
  have d3' : ((20000 : Int) < (a.size : Int) + 1 + (b.size : Int)) = False := by simp; omega
  go_enter Try.func5, Try.ntmps5
  go_upto_region 5 with (first | (go_at_call 7; refine (awake_any _).mono ?_; rintro e w1 ⟨rfl, k1⟩) | (go_at_call 9; refine (scan_any _ _ m1).mono ?_; rintro e w2 ⟨x, ea, rfl, t2, k2⟩))
  go_upto_region 6 with (go_at_call 9; refine (scan_any _ _ m2).mono ?_; rintro e w3 ⟨y, eb, rfl, t3, k3⟩)
  go_upto_region 7 with (go_at_call 9; refine (scan_any _ _ m3).mono ?_; rintro e w4 ⟨z, eg, rfl, t4, k4⟩)
  have T1 := (t2.same k3).same k4
  have T2 := t3.same k4
  have T3 := t4
  rw [scan_le (by omega)] at T1 T2
  rw [join_scan hcat h] at T3
  have K4 : Same0 w w4 := ((k1.trans' k2).trans' k3).trans' k4
  have z3 : w2.heap.size ≤ w3.heap.size := k3.size
  clear t2 t3 t4 k1 k2 k3 k4
  have WA := lexF_within (s := a) (by omega)
  have WB := lexF_within (s := b) (by omega)
  rw [hRa] at T1 T3 WA
  rw [hRb] at T2 T3 WB
  obtain ⟨rfl, b1, rfl, _, hb1⟩ := T1
  obtain ⟨rfl, hfz⟩ := T3
  have HZ : Hid (FaultAt w3.heap.size w4 eg c p) := hfz
  obtain ⟨b3, rfl, _, hb3⟩ := hfz
  have q0 := cellAt hb1 0
  have q1 := cellAt hb1 1
  simp only [List.getElem?_toArray, List.getElem?_cons_zero, List.getElem?_cons_succ] at q0 q1
  have hta := fun W v => assert_fault W v
  have hfn := fun W v => fault_nil W v
  have hnn := fun W => nil_nil W
  have hfne := fun W v => fault_nil_ne W v
  have hnne := fun W => nil_nil_ne W
  clear hb1 hb3 WA WB
  obtain ⟨hr, rfl⟩ := T2
  go_quiet (fail)
  go_wp2
  clear hta hfn hnn hfne hnne
  obtain ⟨w5, hw5⟩ : ∃ w5, w4.drewN nq = w5 := ⟨_, rfl⟩
  have q0' : w5.cell? ⟨b1, 0, none⟩ = some (.int .i64 (c : Int)) := by rw [← hw5]; exact q0
  have q1' : w5.cell? ⟨b1, 1, none⟩ = some (.int .i64 (p : Int)) := by rw [← hw5]; exact q1
  have HZ5 : FaultAt w3.heap.size w5 (.iface 30 (.pointer (some ⟨b3, 0, none⟩))) c p := by rw [← hw5]; exact HZ.out.same ((Kept.refl _ _).drewN nq)
  have K5 : Same0 w w5 := by rw [← hw5]; exact Kept.drewN K4 nq
  rw [hw5]
  clear hw5 q0 q1 HZ K4
  have cS := fault_call HZ5 (cz := (c : Int)) (pz := (p : Int)) rfl rfl
  clear HZ5
  go_region_with (go_at_call 10; refine cS.mono ?_; rintro e w6 ⟨rfl, k6⟩)
  all_goals
    go_wp2
    go_ret
    exact ⟨rfl, (K5.trans' k6).below⟩
end Go.Proofs.Ytecbfnaeglkbaaa
