/- The walk of Point of package heap. -/
import Derived.Test.YtcbplgfkgkefeaaHeapStands
import Derived.Test.YtcbplgfkgkefeaaHeapMark
namespace Go.Proofs.Ytcbplgfkgkefeaa
set_option maxRecDepth 100000
set_option linter.unusedVariables false
open Go.RowKit
attribute [local go_sem ↓] Go.wp_at_zero Go.wp_at_succ
theorem ArgT.nil (w : World) : ArgT w none [] 0 := ⟨⟨.inl rfl, Nat.le_refl _, fun _ => ⟨rfl, rfl⟩, by simp⟩, fun a e => by cases e⟩
/-- An indirection. -/
abbrev indN (t : Nat) : Nd := (0, [], 0, true, (t : Int))
theorem may_ind {n t : Nat} (h : t < n) : mayB n (indN t) = true := by
  unfold mayB
  simp; omega
theorem HpB.pointed {B : Nat → Prop} {w : World} {h g room : Nat} {l : List Nd} (p : HpB B w h g room l) {i t : Nat} (hi : i < l.length) (ht : t < l.length) (hn : ¬ Rc l t i) :
    HpB B (put5 w g (i * 5) (.int .i64 0) (.slice none 0 0) (.int .i64 0) (.bool true) (.int .i64 (t : Int))) h g room (l.set i (indN t)) ∧ Kept (fun k => k = g) w (put5 w g (i * 5) (.int .i64 0) (.slice none 0 0) (.int .i64 0) (.bool true) (.int .i64 (t : Int))) := by
  have hle := p.le
  obtain ⟨q1, q2, q3⟩ := put5_nodes (B' := B) (i := i) (x := indN t) (ao := none) (ac := 0) p.blk p.each (by omega) (ArgT.nil w) (fun a e => by cases e) (fun k e => e)
  have K := put5_kept w g (i * 5) (.int .i64 0) (.slice none 0 0) (.int .i64 0) (.bool true) (.int .i64 (t : Int))
  refine ⟨⟨by rw [List.length_set]; exact K.at p.box p.ne, q2, p.rm1, p.rm2, by simpa using hle, fun j hj => ?_, ?_, ?_⟩, K⟩
  · have hj' : j < l.length := by simpa using hj
    by_cases e : j = i
    · subst e; rw [List.getElem_set_self]; exact q1
    · rw [List.getElem_set_ne (by omega)]; exact q3 j hj' e
  · intro x hx
    rw [List.length_set]
    rcases List.mem_or_eq_of_mem_set hx with e | e
    · exact p.may x e
    · subst e; exact may_ind ht
  · refine p.ac.point hn _ (fun j hj => ?_)
    unfold downL at hj
    simp at hj
    omega
theorem refE_two {n : Nat} {a b : Int} (h : (0 ≤ a ∧ a < (n : Int)) ∧ 0 ≤ b ∧ b < (n : Int)) : refE (n : Int) [a, b] = 0 := by
  unfold refE; rw [if_pos (insB_iff.2 (by simpa using h))]
theorem refE_no2 {n : Nat} {a b : Int} (h : ¬ ((0 ≤ a ∧ a < (n : Int)) ∧ 0 ≤ b ∧ b < (n : Int))) : refE (n : Int) [a, b] = 112 := by
  unfold refE; rw [if_neg (fun e => h (by simpa using insB_iff.1 e))]
set_option maxHeartbeats 1000000 in
theorem point_out {B : Nat → Prop} {w : World} {h g room : Nat} {l : List Nd} (p : HpB B w h g room l) (a t : Int) (ha : ¬ ((0 ≤ a ∧ a < (l.length : Int)) ∧ 0 ≤ t ∧ t < (l.length : Int))) : Calls Try.prog 31 #[.pointer (some ⟨h, 0, none⟩), .int .i64 a, .int .i64 t] w fun e w' => e = .returned (.int .i64 112) ∧ Same0 w w' := by
  have k1 : Same0 w (w.alloc (.cells #[.int .i64 a, .int .i64 t] 3)) := (Kept.refl _ _).alloc _
  have C := refusal_hp (p.same k1) 2 (ints_two w a t) (by simp)
  rw [refE_no2 ha] at C
  clear p ha
  go_enter Try.func31, Try.ntmps31
  go_wp2_with (first | (go_at_call 46; refine C.mono ?_; rintro e w' ⟨rfl, rfl⟩))
  go_ret
  exact ⟨rfl, k1⟩
set_option maxHeartbeats 2000000 in
theorem point_in {B : Nat → Prop} {w : World} {h g room : Nat} {l : List Nd} (p : HpB B w h g room l) (i t : Nat) (hi : i < l.length) (ht : t < l.length) : Calls Try.prog 31 #[.pointer (some ⟨h, 0, none⟩), .int .i64 (i : Int), .int .i64 (t : Int)] w fun e w' =>
    (Rc l t i ∧ e = .returned (.int .i64 113) ∧ Same0 w w') ∨ (¬ Rc l t i ∧ e = .returned (.int .i64 0) ∧ HpB B w' h g room (l.set i (indN t)) ∧ Kept (fun k => k = g) w w') := by
  have k1 : Same0 w (w.alloc (.cells #[.int .i64 (i : Int), .int .i64 (t : Int)] 3)) := (Kept.refl _ _).alloc _
  have p1 := p.same k1
  have C := refusal_hp p1 2 (ints_two w (i : Int) (t : Int)) (by simp)
  rw [refE_two (by omega)] at C
  have CS := stands_any (cap := room) p1.ns i t hi ht
  obtain ⟨c0, c1⟩ := p1.cells
  have hle := p.le
  have i1 : (0 : Int) ≤ (i : Int) := by omega
  have i2 : (i : Int) < (room : Int) := by omega
  have HP : Hid (∀ ww, Same0 (w.alloc (.cells #[.int .i64 (i : Int), .int .i64 (t : Int)] 3)) ww → HpB B ww h g room l) := fun ww hk => p1.same hk
  have HK : Hid (∀ ww, Same0 (w.alloc (.cells #[.int .i64 (i : Int), .int .i64 (t : Int)] 3)) ww → Same0 w ww) := fun ww hk => k1.trans' hk
  clear p p1 k1
  go_enter Try.func31, Try.ntmps31
  go_upto_region 4 with (first | (go_at_call 46; refine C.mono ?_; rintro e w' ⟨rfl, rfl⟩))
  clear C
  go_upto_if 22 with (first | (go_at_call 54; refine CS.mono ?_; rintro e w2 ⟨b, rfl, hb, hk2⟩))
  clear CS c0 c1
  have HBR : Hid (b = true ↔ Rc l t i) := hb
  cases b
  · have hn : ¬ Rc l t i := fun q => by have := HBR.out.2 q; cases this
    have P2 := HP.out w2 hk2
    obtain ⟨d0, d1⟩ := P2.cells
    obtain ⟨u0, u1, u2, u3, u4, t0, t1, t2, t3, t4⟩ := P2.there (show i < room by omega)
    have f0 := P2.free.2 (i * 5)
    have f1 := P2.free.2 (i * 5 + 1)
    have f2 := P2.free.2 (i * 5 + 2)
    have f3 := P2.free.2 (i * 5 + 3)
    have f4 := P2.free.2 (i * 5 + 4)
    obtain ⟨M1, M2⟩ := P2.pointed hi ht hn
    have FF : Hid (¬ Rc l t i ∧ HpB B (put5 w2 g (i * 5) (.int .i64 0) (.slice none 0 0) (.int .i64 0) (.bool true) (.int .i64 (t : Int))) h g room (l.set i (indN t)) ∧ Kept (fun k => k = g) w (put5 w2 g (i * 5) (.int .i64 0) (.slice none 0 0) (.int .i64 0) (.bool true) (.int .i64 (t : Int)))) := ⟨hn, M1, ((HK.out w2 hk2).mono (fun _ _ f => f.elim)).trans M2 (fun _ _ e => e)⟩
    clear P2 M1 M2 hn hb HBR HP HK
    go_wp2
    go_ret
    obtain ⟨q1, q2, q3⟩ := FF.out
    exact .inr ⟨q1, rfl, q2, q3⟩
  · have FF : Hid (Rc l t i ∧ Same0 w w2) := ⟨HBR.out.1 rfl, HK.out w2 hk2⟩
    clear hb HBR HP HK
    go_wp2
    go_ret
    exact .inl ⟨FF.out.1, rfl, FF.out.2⟩
end Go.Proofs.Ytcbplgfkgkefeaa
