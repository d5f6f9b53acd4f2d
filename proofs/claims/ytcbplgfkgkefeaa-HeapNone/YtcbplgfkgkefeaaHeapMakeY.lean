/- The walk of Make of package heap, where it makes a node. -/
import Derived.Test.YtcbplgfkgkefeaaHeapMake
namespace Go.Proofs.Ytcbplgfkgkefeaa
set_option maxRecDepth 100000
set_option linter.unusedVariables false
open Go.RowKit
attribute [local go_sem ↓] Go.wp_at_zero Go.wp_at_succ
set_option maxHeartbeats 1000000 in
theorem make_yes {B : Nat → Prop} {w : World} {h g room : Nat} {l : List Nd} (p : HpB B w h g room l) (s : Int) {ao : Option Addr} {xs : List Int} {cap : Nat} (hx : Arg w ao xs cap) (he : mkE l room s xs = 0) :
    Calls Try.prog 29 #[.pointer (some ⟨h, 0, none⟩), .int .i64 s, .slice ao xs.length cap] w fun e w' => e = .returned (.tuple #[.int .i64 (l.length : Int), .int .i64 0]) ∧ HpB (fun b => B b ∨ w.heap.size ≤ b) w' h g room (l ++ [(s, xs, 0, false, 0)]) ∧ Kept (fun k => k = h ∨ k = g) w w' := by
  obtain ⟨h0, h1, h2, h3⟩ := mk_zero he
  obtain ⟨c0, c1⟩ := p.cells
  have hle := p.le
  have hr2 := p.rm2
  have hne := p.ne
  have C := inside_any cap hx.at' (by omega) (l.length : Int)
  rw [h2] at C
  have i0 : ¬ s < 0 := by omega
  have i1 : (0 : Int) ≤ (l.length : Int) := by omega
  have i2 : (l.length : Int) < (room : Int) := by omega
  have i3 : ¬ ((l.length : Int) = (room : Int)) := by omega
  have HP : Hid (∀ ww, Same0 w ww → HpB B ww h g room l) := fun ww hk => p.same hk
  have HC : Hid (∀ ww, Same0 w ww → Calls Try.prog 47 #[nodeV (s, xs, 0, false, 0) ao cap] ww fun e w' => ∃ bo bc, e = .returned (nodeV (s, xs, 0, false, 0) bo bc) ∧ ArgT w' bo xs bc ∧ (∀ a, bo = some a → ww.heap.size ≤ a.block) ∧ Same0 ww w') := fun ww hk => copied_any (x := (s, xs, 0, false, 0)) (ac := cap) ⟨hx.at'.same hk, hx.cap', hx.nil, hx.size⟩ (by simp; omega)
  have HF : Hid (∀ w1 bo bc, Same0 w w1 → ArgT w1 bo xs bc → (∀ a, bo = some a → w.heap.size ≤ a.block) → HpB (fun b => B b ∨ w.heap.size ≤ b) ((put5 w1 g (l.length * 5) (.int .i64 s) (.slice bo xs.length bc) (.int .i64 0) (.bool false) (.int .i64 0)).setCell ⟨h, 1, none⟩ (.int .i64 ((l.length : Int) + 1))) h g room (l ++ [(s, xs, 0, false, 0)])) := fun w1 bo bc k1 ha hb => p.made k1 he ha hb
  have K0 : Hid (∀ n, Same0 w (w.drewN n)) := fun n => (Kept.refl _ _).drewN n
  clear he hx p h2 h3
  go_enter Try.func29, Try.ntmps29
  go_upto_region 5 with (first | (go_at_call 51; refine C.mono ?_; rintro e w' ⟨rfl, rfl⟩))
  clear C
  go_quiet (fail)
  go_upto_region 8 with fail
  obtain ⟨W2, hW2⟩ : ∃ W2, W2 = w'.drewN nq := ⟨_, rfl⟩
  have K2 : Same0 w' W2 := by rw [hW2]; exact K0.out _
  rw [← hW2]
  clear hW2 c0 c1
  have K2d : Same0 w' W2.drew := K2.drew
  have C0 := (HP.out _ K2d).cells.1
  have CCd := HC.out _ K2d
  have hlr : l.length < room := by omega
  have HT : Hid (l.length < room) := hlr
  have Hsz : Hid (w'.heap.size ≤ W2.drew.heap.size) := K2d.size
  go_region_with (first | (go_at_call 47; refine CCd.mono ?_; rintro e w3 ⟨bo, bc, rfl, ha, hbb, hk3⟩; have K3 := K2d.trans' hk3; have P3 := HP.out w3 K3; have cc1 := P3.cells.1; obtain ⟨u0, u1, u2, u3, u4, t0, t1, t2, t3, t4⟩ := P3.there HT.out; have f0 := P3.free.2 (l.length * 5); have f1 := P3.free.2 (l.length * 5 + 1); have f2 := P3.free.2 (l.length * 5 + 2); have f3 := P3.free.2 (l.length * 5 + 3); have f4 := P3.free.2 (l.length * 5 + 4)))
  all_goals
    obtain ⟨w5, hw5⟩ : ∃ w5, w5 = put5 w3 g (l.length * 5) (.int .i64 s) (.slice bo xs.length bc) (.int .i64 0) (.bool false) (.int .i64 0) := ⟨_, rfl⟩
    have K5 : Kept (fun k => k = g) w3 w5 := by rw [hw5]; exact put5_kept _ _ _ _ _ _ _ _
    have b5 := K5.at P3.box hne
    have c5 : w5.cell? ⟨h, 1, none⟩ = some (.int .i64 (l.length : Int)) := cellAt b5 1
    have e5 : w5.frozen? ⟨h, 1, none⟩ = false := frozenAt b5 1
    have F1 := HF.out w3 bo bc K3 ha (fun a e => Nat.le_trans Hsz.out (hbb a e))
    have F2 := made_kept K3 h g (l.length * 5) (.int .i64 s) (.slice bo xs.length bc) (.int .i64 0) (.bool false) (.int .i64 0) (.int .i64 ((l.length : Int) + 1))
    rw [← hw5] at F1 F2
    have FF : Hid (HpB (fun b => B b ∨ w'.heap.size ≤ b) (w5.setCell ⟨h, 1, none⟩ (.int .i64 ((l.length : Int) + 1))) h g room (l ++ [(s, xs, 0, false, 0)]) ∧ Kept (fun k => k = h ∨ k = g) w' (w5.setCell ⟨h, 1, none⟩ (.int .i64 ((l.length : Int) + 1)))) := ⟨F1, F2⟩
    change Exit.then _ _ Exit.normal _ (put5 w3 g (l.length * 5) (.int .i64 s) (.slice bo xs.length bc) (.int .i64 0) (.bool false) (.int .i64 0))
    rw [← hw5]
    clear hw5 F1 F2 b5 t0 t1 t2 t3 t4 f0 f1 f2 f3 f4 cc1 P3 C0 CCd ha hbb HF HC HP
    go_wp2
    go_ret2
    exact ⟨rfl, FF.out.1, FF.out.2⟩
end Go.Proofs.Ytcbplgfkgkefeaa
