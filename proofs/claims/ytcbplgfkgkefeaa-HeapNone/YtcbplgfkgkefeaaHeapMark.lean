/- The walks of Mark and Clear of package heap. -/
import Derived.Test.YtcbplgfkgkefeaaHeapAt
namespace Go.Proofs.Ytcbplgfkgkefeaa
set_option maxRecDepth 100000
set_option linter.unusedVariables false
open Go.RowKit
attribute [local go_sem ↓] Go.wp_at_zero Go.wp_at_succ
/-- Whether it is a mark. -/
def isMk (n : Int) : Bool := decide (0 ≤ n) && decide (n ≤ 2)
set_option maxHeartbeats 1000000 in
theorem isMark_any (n : Int) (w : World) : Calls Try.prog 55 #[.int .i64 n] w fun e w' => e = .returned (.bool (isMk n)) ∧ w' = w := by
  by_cases h1 : 0 ≤ n
  · by_cases h2 : n ≤ 2
    · have H : Hid (isMk n = true) := by show _ = _; simp [isMk, h1, h2]
      go_enter Try.func55, Try.ntmps55
      go_wp2
      go_ret
      exact ⟨ret_bool H.out.symm, rfl⟩
    · have H : Hid (isMk n = false) := by show _ = _; simp [isMk, h1, h2]
      go_enter Try.func55, Try.ntmps55
      go_wp2
      go_ret
      exact ⟨ret_bool H.out.symm, rfl⟩
  · have H : Hid (isMk n = false) := by show _ = _; simp [isMk, h1]
    go_enter Try.func55, Try.ntmps55
    go_wp2
    go_ret
    exact ⟨ret_bool H.out.symm, rfl⟩
/-- A node with another mark. -/
def marked (x : Nd) (m : Int) : Nd := (x.1, x.2.1, m, x.2.2.2.1, x.2.2.2.2)
theorem down_marked (x : Nd) (m : Int) : downL (marked x m) = downL x := rfl
theorem may_marked {n : Nat} {x : Nd} (h : mayB n x = true) {m : Int} (hm : 0 ≤ m ∧ m ≤ 2) (hp : x.2.2.2.1 = true → m = 0) : mayB n (marked x m) = true := by
  unfold mayB at h ⊢
  unfold marked
  cases hq : x.2.2.2.1
  · simp [hq] at h ⊢
    exact ⟨⟨⟨⟨h.1.1.1.1, hm.1⟩, hm.2⟩, h.1.2⟩, h.2⟩
  · simp [hq] at h ⊢
    have := hp hq
    subst this
    exact ⟨⟨⟨⟨h.1.1.1.1, hm.1⟩, hm.2⟩, h.1.2⟩, ⟨⟨⟨h.2.1.1.1, h.2.1.1.2⟩, rfl⟩, h.2.2⟩⟩
theorem ac_same {l l' : List Nd} (h : Ac l) (hl : l'.length = l.length) (he : ∀ i (h1 : i < l'.length) (h2 : i < l.length), downL l'[i] = downL l[i]) : Ac l' := by
  obtain ⟨r, hr⟩ := h
  refine ⟨r, fun i j e => hr i j ?_⟩
  obtain ⟨h1, h2⟩ := e
  exact ⟨by omega, by rw [he i h1 (by omega)] at h2; exact h2⟩
/-- One cell of a node is another one: the mark. -/
theorem HpB.marked {B : Nat → Prop} {w : World} {h g room : Nat} {l : List Nd} (p : HpB B w h g room l) {i : Nat} (hi : i < l.length) {m : Int} (hm : 0 ≤ m ∧ m ≤ 2) (hp : l[i].2.2.2.1 = true → m = 0) :
    HpB B (w.setCell ⟨g, i * 5 + 2, none⟩ (.int .i64 m)) h g room (l.set i (Ytcbplgfkgkefeaa.marked l[i] m)) ∧ Kept (fun k => k = g) w (w.setCell ⟨g, i * 5 + 2, none⟩ (.int .i64 m)) := by
  have K : Kept (fun k => k = g) w (w.setCell ⟨g, i * 5 + 2, none⟩ (.int .i64 m)) := Kept.setCell (S := fun k => k = g) (Kept.refl _ _) (p := ⟨g, i * 5 + 2, none⟩) (fun _ => rfl) _
  obtain ⟨cs, h1, h2⟩ := p.blk
  have q := setAt h1 (i * 5 + 2) (.int .i64 m)
  have hle := p.le
  have gi : ∀ k, k = g → NotI w k := fun k e cur h => by rw [e, h1] at h; cases h
  have old : ∀ o, o ≠ i * 5 + 2 → (w.setCell ⟨g, i * 5 + 2, none⟩ (.int .i64 m)).cell? ⟨g, o, none⟩ = w.cell? ⟨g, o, none⟩ := fun o ho => by
    rw [cellAt q, cellAt h1, Array.getElem?_setIfInBounds, if_neg (by omega)]
  have new : (w.setCell ⟨g, i * 5 + 2, none⟩ (.int .i64 m)).cell? ⟨g, i * 5 + 2, none⟩ = some (.int .i64 m) := by
    rw [cellAt q, Array.getElem?_setIfInBounds, if_pos rfl, if_pos (by omega)]
  refine ⟨⟨by rw [List.length_set]; exact K.at p.box p.ne, ⟨_, q, by simpa using h2⟩, p.rm1, p.rm2, by simpa using hle, fun j hj => ?_, ?_, ?_⟩, K⟩
  · have hj' : j < l.length := by simpa using hj
    obtain ⟨ao, ac, n0, n1, n2, n3, n4, n5, n6⟩ := p.each j hj'
    by_cases e : j = i
    · subst e
      rw [List.getElem_set_self]
      exact ⟨ao, ac, (old _ (by omega)).trans n0, (old _ (by omega)).trans n1, new, (old _ (by omega)).trans n3, (old _ (by omega)).trans n4, n5.kept K gi, n6⟩
    · rw [List.getElem_set_ne (by omega)]
      exact ⟨ao, ac, (old _ (by omega)).trans n0, (old _ (by omega)).trans n1, (old _ (by omega)).trans n2, (old _ (by omega)).trans n3, (old _ (by omega)).trans n4, n5.kept K gi, n6⟩
  · intro x hx
    rw [List.length_set]
    rcases List.mem_or_eq_of_mem_set hx with e | e
    · exact p.may x e
    · subst e; exact may_marked (p.may _ (List.getElem_mem hi)) hm hp
  · refine ac_same p.ac (by simp) (fun j h3 h4 => ?_)
    by_cases e : j = i
    · subst e; rw [List.getElem_set_self]; rfl
    · rw [List.getElem_set_ne (by omega)]
/-- What Mark answers. -/
def markE (l : List Nd) (a m : Int) : Int := if ¬ (0 ≤ a ∧ a < (l.length : Int)) then 112 else if (l.getD a.toNat (0, [], 0, false, 0)).2.2.2.1 = true then 112 else if 0 ≤ m ∧ m ≤ 2 then 0 else 1
set_option maxHeartbeats 1000000 in
theorem mark_out {B : Nat → Prop} {w : World} {h g room : Nat} {l : List Nd} (p : HpB B w h g room l) (a m : Int) (ha : ¬ (0 ≤ a ∧ a < (l.length : Int))) : Calls Try.prog 32 #[.pointer (some ⟨h, 0, none⟩), .int .i64 a, .int .i64 m] w fun e w' => e = .returned (.int .i64 112) ∧ Same0 w w' := by
  have k1 : Same0 w (w.alloc (.cells #[.int .i64 a] 3)) := (Kept.refl _ _).alloc _
  have C := refusal_hp (p.same k1) 1 (ints_one w a) (by simp)
  rw [refE_no ha] at C
  clear p ha
  go_enter Try.func32, Try.ntmps32
  go_wp2_with (first | (go_at_call 46; refine C.mono ?_; rintro e w' ⟨rfl, rfl⟩))
  go_ret
  exact ⟨rfl, k1⟩
set_option maxHeartbeats 2000000 in
theorem mark_in {B : Nat → Prop} {w : World} {h g room : Nat} {l : List Nd} (p : HpB B w h g room l) (i : Nat) (hi : i < l.length) (m : Int) : Calls Try.prog 32 #[.pointer (some ⟨h, 0, none⟩), .int .i64 (i : Int), .int .i64 m] w fun e w' =>
    (markE l (i : Int) m ≠ 0 ∧ e = .returned (.int .i64 (markE l (i : Int) m)) ∧ Same0 w w') ∨ (markE l (i : Int) m = 0 ∧ l[i].2.2.2.1 = false ∧ 0 ≤ m ∧ m ≤ 2 ∧ e = .returned (.int .i64 0) ∧ HpB B w' h g room (l.set i (marked l[i] m)) ∧ Kept (fun k => k = g) w w') := by
  have k1 : Same0 w (w.alloc (.cells #[.int .i64 (i : Int)] 3)) := (Kept.refl _ _).alloc _
  have p1 := p.same k1
  have C := refusal_hp p1 1 (ints_one w (i : Int)) (by simp)
  rw [refE_one (by omega)] at C
  have C2 := isMark_any m
  obtain ⟨c0, c1⟩ := p1.cells
  have hle := p.le
  obtain ⟨ao, ac, n0, n1, n2, n3, n4, -, -⟩ := p1.each i hi
  have i1 : (0 : Int) ≤ (i : Int) := by omega
  have i2 : (i : Int) < (room : Int) := by omega
  have f2 := p1.free.2 (i * 5 + 2)
  have hge : l.getD i (0, [], 0, false, 0) = l[i] := by simp [hi]
  obtain ⟨pb, hp⟩ : ∃ pb, l[i].2.2.2.1 = pb := ⟨_, rfl⟩
  cases pb
  · rw [hp] at n3
    by_cases hm : 0 ≤ m ∧ m ≤ 2
    · have e1 : isMk m = true := by simp [isMk, hm]
      rw [e1] at C2
      have M := p1.marked hi hm (by rw [hp]; intro h; cases h)
      have H : Hid (markE l (i : Int) m = 0 ∧ l[i].2.2.2.1 = false ∧ 0 ≤ m ∧ m ≤ 2 ∧ HpB B ((w.alloc (.cells #[.int .i64 (i : Int)] 3)).setCell ⟨g, i * 5 + 2, none⟩ (.int .i64 m)) h g room (l.set i (marked l[i] m)) ∧ Kept (fun k => k = g) w ((w.alloc (.cells #[.int .i64 (i : Int)] 3)).setCell ⟨g, i * 5 + 2, none⟩ (.int .i64 m))) := ⟨by rw [markE, if_neg (by omega)]; simp [hi, hp, hm], hp, hm.1, hm.2, M.1, (k1.mono (fun _ _ f => f.elim)).trans M.2 (fun _ _ e => e)⟩
      clear p p1 k1 hp M e1 hge hm n0 n1 n4
      go_enter Try.func32, Try.ntmps32
      go_wp2_with (first | (go_at_call 46; refine C.mono ?_; rintro e w' ⟨rfl, rfl⟩) | (go_at_call 55; refine (C2 _).mono ?_; rintro e w' ⟨rfl, rfl⟩))
      go_ret
      obtain ⟨q1, q2, q3, q4, q5, q6⟩ := H.out
      exact .inr ⟨q1, q2, q3, q4, rfl, q5, q6⟩
    · have e1 : isMk m = false := by simp [isMk]; omega
      rw [e1] at C2
      have H : Hid (markE l (i : Int) m = 1 ∧ Same0 w (w.alloc (.cells #[.int .i64 (i : Int)] 3))) := ⟨by rw [markE, if_neg (by omega)]; simp [hi, hp, hm], k1⟩
      clear p p1 k1 hp e1 hge hm n0 n1 n2 n4
      go_enter Try.func32, Try.ntmps32
      go_wp2_with (first | (go_at_call 46; refine C.mono ?_; rintro e w' ⟨rfl, rfl⟩) | (go_at_call 55; refine (C2 _).mono ?_; rintro e w' ⟨rfl, rfl⟩))
      go_ret
      obtain ⟨q1, q2⟩ := H.out
      exact .inl ⟨by rw [q1]; decide, ret_int q1.symm, q2⟩
  · rw [hp] at n3
    have H : Hid (markE l (i : Int) m = 112 ∧ Same0 w (w.alloc (.cells #[.int .i64 (i : Int)] 3))) := ⟨by rw [markE, if_neg (by omega)]; simp [hi, hp], k1⟩
    clear p p1 k1 hp hge n0 n1 n2 n4
    go_enter Try.func32, Try.ntmps32
    go_wp2_with (first | (go_at_call 46; refine C.mono ?_; rintro e w' ⟨rfl, rfl⟩))
    go_ret
    obtain ⟨q1, q2⟩ := H.out
    exact .inl ⟨by rw [q1]; decide, ret_int q1.symm, q2⟩
end Go.Proofs.Ytcbplgfkgkefeaa
