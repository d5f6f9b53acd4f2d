/- The walk of Make of package heap. -/
import Derived.Test.YtcbplgfkgkefeaaHeapAt
namespace Go.Proofs.Ytcbplgfkgkefeaa
set_option maxRecDepth 100000
set_option linter.unusedVariables false
open Go.RowKit
attribute [local go_sem ↓] Go.wp_at_zero Go.wp_at_succ
/-- What Make answers. -/
def mkE (l : List Nd) (room : Nat) (s : Int) (xs : List Int) : Int := if s < 0 ∨ 6 < xs.length then 1 else if insB (l.length : Int) xs = false then 112 else if l.length = room then 111 else 0
set_option maxHeartbeats 2000000 in
theorem make_no {B : Nat → Prop} {w : World} {h g room : Nat} {l : List Nd} (p : HpB B w h g room l) (s : Int) {ao : Option Addr} {xs : List Int} {cap : Nat} (hx : Arg w ao xs cap) (he : mkE l room s xs ≠ 0) :
    Calls Try.prog 29 #[.pointer (some ⟨h, 0, none⟩), .int .i64 s, .slice ao xs.length cap] w fun e w' => e = .returned (.tuple #[.int .i64 0, .int .i64 (mkE l room s xs)]) ∧ Same0 w w' := by
  obtain ⟨c0, c1⟩ := p.cells
  have hs := hx.size
  have hle := p.le
  have hr2 := p.rm2
  have r0 : Hid (Same0 w w ∧ Same0 w w.drew ∧ ∀ n, Same0 w (w.drewN n)) := ⟨Kept.refl _ _, (Kept.refl _ _).drew, fun n => (Kept.refl _ _).drewN n⟩
  by_cases h1 : s < 0
  · have H : Hid (mkE l room s xs = 1) := by show _ = _; rw [mkE, if_pos (.inl h1)]
    clear he hx p
    go_enter Try.func29, Try.ntmps29
    go_wp2
    go_ret2
    exact ⟨by rw [H.out]; rfl, r0.out.1⟩
  · by_cases h2 : 6 < xs.length
    · have H : Hid (mkE l room s xs = 1) := by show _ = _; rw [mkE, if_pos (.inr h2)]
      clear he hx p
      go_enter Try.func29, Try.ntmps29
      go_wp2
      go_ret2
      exact ⟨by rw [H.out]; rfl, r0.out.1⟩
    · have C := inside_any cap hx.at' (by omega) (l.length : Int)
      cases hi : insB (l.length : Int) xs
      · have H : Hid (mkE l room s xs = 112) := by show _ = _; rw [mkE, if_neg (by omega), if_pos hi]
        rw [hi] at C
        clear he hx p hi
        go_enter Try.func29, Try.ntmps29
        go_wp2_with (first | (go_at_call 51; refine C.mono ?_; rintro e w' ⟨rfl, rfl⟩))
        go_ret2
        exact ⟨by rw [H.out]; rfl, r0.out.1⟩
      · have h4 : l.length = room := by
          by_cases q : l.length = room
          · exact q
          · exact absurd (by rw [mkE, if_neg (by omega), if_neg (by rw [hi]; simp), if_neg q]) he
        have H : Hid (mkE l room s xs = 111) := by show _ = _; rw [mkE, if_neg (by omega), if_neg (by rw [hi]; simp), if_pos h4]
        rw [hi] at C
        rw [h4] at c1 C
        clear he hx p hi h4 hle
        go_enter Try.func29, Try.ntmps29
        go_upto_region 5 with (first | (go_at_call 51; refine C.mono ?_; rintro e w' ⟨rfl, rfl⟩))
        clear C
        go_quiet (fail)
        go_wp2
        go_ret2
        exact ⟨by rw [H.out]; rfl, r0.out.2.2 _⟩
theorem may_make {l : List Nd} (h : ∀ x ∈ l, mayB l.length x = true) {x : Nd} (hx : mayB l.length x = true) : ∀ y ∈ l ++ [x], mayB (l ++ [x]).length y = true := by
  intro y hy
  have : l.length ≤ (l ++ [x]).length := by simp
  rcases List.mem_append.1 hy with q | q
  · exact may_more (h y q) this
  · simp at q; subst q; exact may_more hx this
theorem mk_zero {l : List Nd} {room : Nat} {s : Int} {xs : List Int} (he : mkE l room s xs = 0) : 0 ≤ s ∧ xs.length ≤ 6 ∧ insB (l.length : Int) xs = true ∧ l.length ≠ room := by
  unfold mkE at he
  split at he
  · cases he
  · split at he
    · cases he
    · split at he
      · cases he
      · rename_i a b c
        exact ⟨by omega, by omega, by simpa using b, c⟩
theorem mk_may {l : List Nd} {s : Int} {xs : List Int} (h0 : 0 ≤ s) (h1 : xs.length ≤ 6) (h2 : insB (l.length : Int) xs = true) : mayB l.length (s, xs, 0, false, 0) = true := by
  unfold mayB
  unfold insB at h2
  simp [h0, h1]
  simpa using h2
/-- The heap behind Make. -/
theorem HpB.made {B : Nat → Prop} {w w1 : World} {h g room : Nat} {l : List Nd} (p : HpB B w h g room l) (k1 : Same0 w w1) {s : Int} {xs : List Int} (he : mkE l room s xs = 0) {bo : Option Addr} {bc : Nat} (ha : ArgT w1 bo xs bc) (hb : ∀ a, bo = some a → w.heap.size ≤ a.block) :
    HpB (fun b => B b ∨ w.heap.size ≤ b) ((put5 w1 g (l.length * 5) (.int .i64 s) (.slice bo xs.length bc) (.int .i64 0) (.bool false) (.int .i64 0)).setCell ⟨h, 1, none⟩ (.int .i64 ((l.length : Int) + 1))) h g room (l ++ [(s, xs, 0, false, 0)]) := by
  obtain ⟨h0, h1, h2, h3⟩ := mk_zero he
  have hle := p.le
  have p1 := p.same k1
  have q := put5_nodes (B' := fun b => B b ∨ w.heap.size ≤ b) (i := l.length) (x := (s, xs, 0, false, 0)) (ao := bo) (ac := bc) p1.blk p1.each (by omega) ha (fun a e => .inr (hb a e)) (fun k e => .inl e)
  obtain ⟨q1, q2, q3⟩ := q
  have kp := put5_kept w1 g (l.length * 5) (.int .i64 s) (.slice bo xs.length bc) (.int .i64 0) (.bool false) (.int .i64 0)
  have bx := kp.at p1.box p.ne
  have ks : Kept (fun k => k = h) (put5 w1 g (l.length * 5) (.int .i64 s) (.slice bo xs.length bc) (.int .i64 0) (.bool false) (.int .i64 0)) _ := Kept.setCell (S := fun k => k = h) (Kept.refl _ _) (p := ⟨h, 1, none⟩) (fun _ => rfl) (.int .i64 ((l.length : Int) + 1))
  have nh : ∀ k, k = h → NotI (put5 w1 g (l.length * 5) (.int .i64 s) (.slice bo xs.length bc) (.int .i64 0) (.bool false) (.int .i64 0)) k := fun k e cur hc => by rw [e, bx] at hc; cases hc
  have gl : g < (put5 w1 g (l.length * 5) (.int .i64 s) (.slice bo xs.length bc) (.int .i64 0) (.bool false) (.int .i64 0)).heap.size := Nat.lt_of_lt_of_le p1.ltG kp.size
  refine ⟨?_, ?_, p.rm1, p.rm2, by simp; omega, fun i hi => ?_, may_make p.may (mk_may h0 h1 h2), p.ac.make p.inl _ (may_down (mk_may h0 h1 h2))⟩
  · have := setAt bx 1 (.int .i64 ((l.length : Int) + 1))
    simpa using this
  · obtain ⟨cs, q4, q5⟩ := q2
    exact ⟨cs, ks.at q4 (fun e => p.ne e.symm), q5⟩
  · by_cases e : i < l.length
    · rw [List.getElem_append_left e]
      exact (q3 i e (by omega)).kept gl ks (fun e => p.ne e.symm) (fun k _ e => nh k e)
    · obtain rfl : i = l.length := by simp at hi; omega
      simp only [List.getElem_append_right (Nat.le_refl _), Nat.sub_self, List.getElem_cons_zero]
      exact q1.kept gl ks (fun e => p.ne e.symm) (fun k _ e => nh k e)
theorem made_kept {w w1 : World} (k1 : Same0 w w1) (h g off : Nat) (v0 v1 v2 v3 v4 v5 : Value) : Kept (fun k => k = h ∨ k = g) w ((put5 w1 g off v0 v1 v2 v3 v4).setCell ⟨h, 1, none⟩ v5) := by
  have a : Kept (fun k => k = h ∨ k = g) w w1 := k1.mono (fun _ _ f => f.elim)
  have b := a.trans (S' := fun k => k = g) (put5_kept w1 g off v0 v1 v2 v3 v4) (fun _ _ e => .inr e)
  exact Kept.setCell (S := fun k => k = h ∨ k = g) b (p := ⟨h, 1, none⟩) (fun _ => .inl rfl) v5
end Go.Proofs.Ytcbplgfkgkefeaa
