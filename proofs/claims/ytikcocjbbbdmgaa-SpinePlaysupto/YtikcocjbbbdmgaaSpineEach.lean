/- The walk of each, by its three takers. -/
import Derived.Test.YtikcocjbbbdmgaaSpineTop
namespace Go.Proofs.Ytikcocjbbbdmgaa
set_option maxRecDepth 100000
set_option linter.unusedVariables false
open Go.RowKit
attribute [local go_sem ↓] Go.wp_at_zero Go.wp_at_succ
set_option maxHeartbeats 1000000 in
theorem each_path {B : Nat → Prop} {base : Nat} {w : World} {s : Nat} {v : Value} {l : List Fr} (p : SpT 53 B base w s v l) (q : Nat) (Inv : Nat → World → Prop) (h0 : Inv 0 w)
    (hal : ∀ k ww o, Inv k ww → Inv k (ww.alloc o)) (hsp : ∀ k ww, Inv k ww → SpT 53 B base ww s v l)
    (hst : ∀ k (hk : k < l.length) ww xo xc, Inv k ww → Arg ww xo l[k].2.2.2 xc → (l[k].2.2.2 ≠ [] → ∀ a, xo = some a → B a.block) → Calls Try.prog 39 #[.pointer (some ⟨q, 0, none⟩), frV l[k] xo xc] ww fun e w' => (∃ u, e = .returned u) ∧ Inv (k + 1) w') :
    Calls Try.prog 38 #[.pointer (some ⟨s, 0, none⟩), .func (.func 39) #[.pointer (some ⟨q, 0, none⟩)] #[]] w fun e w' => (∃ u, e = .returned u) ∧ Inv l.length w' := by
  have c0 := p.cell.1
  have hmx : l.length ≤ 9223372036854775807 := by
    obtain ⟨vs, h1, _⟩ := p.row
    rcases h1.2 with ⟨_, e⟩ | ⟨_, _, _, _, _, _, h2, h3, _⟩
    · omega
    · unfold maxLen at h3; omega
  obtain ⟨vo, vc, rfl⟩ := p.row.shape
  have H0 : Hid (Inv 0 w) := h0
  have HA : Hid (∀ k ww o, Inv k ww → Inv k (ww.alloc o)) := hal
  have HS : Hid (∀ k ww, Inv k ww → SpT 53 B base ww s (.slice vo l.length vc) l) := hsp
  have HT : Hid (∀ k (hk : k < l.length) ww xo xc, Inv k ww → Arg ww xo l[k].2.2.2 xc → (l[k].2.2.2 ≠ [] → ∀ a, xo = some a → B a.block) → Calls Try.prog 39 #[.pointer (some ⟨q, 0, none⟩), frV l[k] xo xc] ww fun e w' => (∃ u, e = .returned u) ∧ Inv (k + 1) w') := hst
  clear p h0 hal hsp hst
  go_enter Try.func38, Try.ntmps38
  go_upto_region 2 with fail
  clear c0
  go_loopw [13] (fun i wr => ∃ k : Nat, i = .int .i64 (k : Int) ∧ k ≤ l.length ∧ Hid (Inv k wr)) (fun i _ => l.length - (intOf i).toNat)
  case atStart => exact ⟨0, rfl, Nat.zero_le _, H0⟩
  case round =>
    clear H0
    obtain ⟨k, rfl, hk, hI⟩ := hrel
    by_cases hlt : k < l.length
    · have j0 : (0 : Int) ≤ (k : Int) := by omega
      have j1 : (k : Int) < (l.length : Int) := by omega
      have pw := HS.out k wr hI.out
      obtain ⟨b, off, xo, xc, e, -, m0, m1, m2, m3, m4, m5⟩ := pw.row.mem.get hlt
      subst e
      have kA : Same0 wr (wr.alloc (.cells #[.int .i64 l[k].1, .bool l[k].2.1, .int .i64 l[k].2.2.1, .slice xo l[k].2.2.2.length xc] 30)) := (Kept.refl _ _).alloc _
      have CT := HT.out k hlt (wr.alloc (.cells #[.int .i64 l[k].1, .bool l[k].2.1, .int .i64 l[k].2.2.1, .slice xo l[k].2.2.2.length xc] 30)) xo xc (HA.out _ _ _ hI.out) ⟨m4.at'.same kA, m4.cap', m4.nil, m4.size⟩ m5
      obtain ⟨W3, hW3⟩ : ∃ W3, W3 = wr.alloc (.cells #[.int .i64 l[k].1, .bool l[k].2.1, .int .i64 l[k].2.2.1, .slice xo l[k].2.2.2.length xc] 30) := ⟨_, rfl⟩
      obtain ⟨a0, a1, a2, a3⟩ := box4 (show W3.heap[wr.heap.size]? = some (.cells #[.int .i64 l[k].1, .bool l[k].2.1, .int .i64 l[k].2.2.1, .slice xo l[k].2.2.2.length xc] 30 (0, 0)) by rw [hW3]; exact heap_alloc_new wr _)
      rw [← hW3] at CT
      clear pw m4 m5 kA hI
      go_upto_region 4 with fail
      rw [← hW3]
      clear hW3 m0 m1 m2 m3
      have hl3 : IntKind.i64.wrap ((k : Int) + 1) = (k : Int) + 1 := fwrap (by omega) (by omega)
      go_wp2_with (first | (go_at_call 39; refine CT.mono ?_; rintro e w4 ⟨⟨u, rfl⟩, hI4⟩; have HI4 : Hid (Inv (k + 1) w4) := hI4; clear hI4))
      go_roundw
      case rel => first | exact ⟨k + 1, by go_num, by omega, HI4⟩ | ((repeat apply Exists.intro); exact ⟨⟨k + 1, by go_num, by omega, HI4⟩, rfl⟩)
      case measure => simp [intOf]; omega
    · have hkl : k = l.length := by omega
      subst hkl
      go_wp2
      first | go_end0 | (refine bodyPost_ret (results_none rfl _ _ _) rfl ?_)
      exact ⟨⟨_, rfl⟩, hI.out⟩
theorem each_path_none (w : World) (q : Nat) : Calls Try.prog 38 #[.pointer none, .func (.func 39) #[.pointer (some ⟨q, 0, none⟩)] #[]] w fun e w' => (∃ u, e = .returned u) ∧ w' = w := by
  go_enter Try.func38, Try.ntmps38
  go_wp2
  first | go_end0 | (refine bodyPost_ret (results_none rfl _ _ _) rfl ?_)
  exact ⟨⟨_, rfl⟩, rfl⟩
set_option maxHeartbeats 1000000 in
theorem each_nodes {B : Nat → Prop} {base : Nat} {w : World} {s : Nat} {v : Value} {l : List Fr} (p : SpT 53 B base w s v l) (q : Nat) (Inv : Nat → World → Prop) (h0 : Inv 0 w)
    (hal : ∀ k ww o, Inv k ww → Inv k (ww.alloc o)) (hsp : ∀ k ww, Inv k ww → SpT 53 B base ww s v l)
    (hst : ∀ k (hk : k < l.length) ww xo xc, Inv k ww → Arg ww xo l[k].2.2.2 xc → (l[k].2.2.2 ≠ [] → ∀ a, xo = some a → B a.block) → Calls Try.prog 41 #[.pointer (some ⟨q, 0, none⟩), frV l[k] xo xc] ww fun e w' => (∃ u, e = .returned u) ∧ Inv (k + 1) w') :
    Calls Try.prog 38 #[.pointer (some ⟨s, 0, none⟩), .func (.func 41) #[.pointer (some ⟨q, 0, none⟩)] #[]] w fun e w' => (∃ u, e = .returned u) ∧ Inv l.length w' := by
  have c0 := p.cell.1
  have hmx : l.length ≤ 9223372036854775807 := by
    obtain ⟨vs, h1, _⟩ := p.row
    rcases h1.2 with ⟨_, e⟩ | ⟨_, _, _, _, _, _, h2, h3, _⟩
    · omega
    · unfold maxLen at h3; omega
  obtain ⟨vo, vc, rfl⟩ := p.row.shape
  have H0 : Hid (Inv 0 w) := h0
  have HA : Hid (∀ k ww o, Inv k ww → Inv k (ww.alloc o)) := hal
  have HS : Hid (∀ k ww, Inv k ww → SpT 53 B base ww s (.slice vo l.length vc) l) := hsp
  have HT : Hid (∀ k (hk : k < l.length) ww xo xc, Inv k ww → Arg ww xo l[k].2.2.2 xc → (l[k].2.2.2 ≠ [] → ∀ a, xo = some a → B a.block) → Calls Try.prog 41 #[.pointer (some ⟨q, 0, none⟩), frV l[k] xo xc] ww fun e w' => (∃ u, e = .returned u) ∧ Inv (k + 1) w') := hst
  clear p h0 hal hsp hst
  go_enter Try.func38, Try.ntmps38
  go_upto_region 2 with fail
  clear c0
  go_loopw [13] (fun i wr => ∃ k : Nat, i = .int .i64 (k : Int) ∧ k ≤ l.length ∧ Hid (Inv k wr)) (fun i _ => l.length - (intOf i).toNat)
  case atStart => exact ⟨0, rfl, Nat.zero_le _, H0⟩
  case round =>
    clear H0
    obtain ⟨k, rfl, hk, hI⟩ := hrel
    by_cases hlt : k < l.length
    · have j0 : (0 : Int) ≤ (k : Int) := by omega
      have j1 : (k : Int) < (l.length : Int) := by omega
      have pw := HS.out k wr hI.out
      obtain ⟨b, off, xo, xc, e, -, m0, m1, m2, m3, m4, m5⟩ := pw.row.mem.get hlt
      subst e
      have kA : Same0 wr (wr.alloc (.cells #[.int .i64 l[k].1, .bool l[k].2.1, .int .i64 l[k].2.2.1, .slice xo l[k].2.2.2.length xc] 30)) := (Kept.refl _ _).alloc _
      have CT := HT.out k hlt (wr.alloc (.cells #[.int .i64 l[k].1, .bool l[k].2.1, .int .i64 l[k].2.2.1, .slice xo l[k].2.2.2.length xc] 30)) xo xc (HA.out _ _ _ hI.out) ⟨m4.at'.same kA, m4.cap', m4.nil, m4.size⟩ m5
      obtain ⟨W3, hW3⟩ : ∃ W3, W3 = wr.alloc (.cells #[.int .i64 l[k].1, .bool l[k].2.1, .int .i64 l[k].2.2.1, .slice xo l[k].2.2.2.length xc] 30) := ⟨_, rfl⟩
      obtain ⟨a0, a1, a2, a3⟩ := box4 (show W3.heap[wr.heap.size]? = some (.cells #[.int .i64 l[k].1, .bool l[k].2.1, .int .i64 l[k].2.2.1, .slice xo l[k].2.2.2.length xc] 30 (0, 0)) by rw [hW3]; exact heap_alloc_new wr _)
      rw [← hW3] at CT
      clear pw m4 m5 kA hI
      go_upto_region 4 with fail
      rw [← hW3]
      clear hW3 m0 m1 m2 m3
      have hl3 : IntKind.i64.wrap ((k : Int) + 1) = (k : Int) + 1 := fwrap (by omega) (by omega)
      go_wp2_with (first | (go_at_call 41; refine CT.mono ?_; rintro e w4 ⟨⟨u, rfl⟩, hI4⟩; have HI4 : Hid (Inv (k + 1) w4) := hI4; clear hI4))
      go_roundw
      case rel => first | exact ⟨k + 1, by go_num, by omega, HI4⟩ | ((repeat apply Exists.intro); exact ⟨⟨k + 1, by go_num, by omega, HI4⟩, rfl⟩)
      case measure => simp [intOf]; omega
    · have hkl : k = l.length := by omega
      subst hkl
      go_wp2
      first | go_end0 | (refine bodyPost_ret (results_none rfl _ _ _) rfl ?_)
      exact ⟨⟨_, rfl⟩, hI.out⟩
theorem each_nodes_none (w : World) (q : Nat) : Calls Try.prog 38 #[.pointer none, .func (.func 41) #[.pointer (some ⟨q, 0, none⟩)] #[]] w fun e w' => (∃ u, e = .returned u) ∧ w' = w := by
  go_enter Try.func38, Try.ntmps38
  go_wp2
  first | go_end0 | (refine bodyPost_ret (results_none rfl _ _ _) rfl ?_)
  exact ⟨⟨_, rfl⟩, rfl⟩
set_option maxHeartbeats 1000000 in
theorem each_frames {B : Nat → Prop} {base : Nat} {w : World} {s : Nat} {v : Value} {l : List Fr} (p : SpT 53 B base w s v l) (q : Nat) (Inv : Nat → World → Prop) (h0 : Inv 0 w)
    (hal : ∀ k ww o, Inv k ww → Inv k (ww.alloc o)) (hsp : ∀ k ww, Inv k ww → SpT 53 B base ww s v l)
    (hst : ∀ k (hk : k < l.length) ww xo xc, Inv k ww → Arg ww xo l[k].2.2.2 xc → (l[k].2.2.2 ≠ [] → ∀ a, xo = some a → B a.block) → Calls Try.prog 40 #[.pointer (some ⟨q, 0, none⟩), frV l[k] xo xc] ww fun e w' => (∃ u, e = .returned u) ∧ Inv (k + 1) w') :
    Calls Try.prog 38 #[.pointer (some ⟨s, 0, none⟩), .func (.func 40) #[.pointer (some ⟨q, 0, none⟩)] #[]] w fun e w' => (∃ u, e = .returned u) ∧ Inv l.length w' := by
  have c0 := p.cell.1
  have hmx : l.length ≤ 9223372036854775807 := by
    obtain ⟨vs, h1, _⟩ := p.row
    rcases h1.2 with ⟨_, e⟩ | ⟨_, _, _, _, _, _, h2, h3, _⟩
    · omega
    · unfold maxLen at h3; omega
  obtain ⟨vo, vc, rfl⟩ := p.row.shape
  have H0 : Hid (Inv 0 w) := h0
  have HA : Hid (∀ k ww o, Inv k ww → Inv k (ww.alloc o)) := hal
  have HS : Hid (∀ k ww, Inv k ww → SpT 53 B base ww s (.slice vo l.length vc) l) := hsp
  have HT : Hid (∀ k (hk : k < l.length) ww xo xc, Inv k ww → Arg ww xo l[k].2.2.2 xc → (l[k].2.2.2 ≠ [] → ∀ a, xo = some a → B a.block) → Calls Try.prog 40 #[.pointer (some ⟨q, 0, none⟩), frV l[k] xo xc] ww fun e w' => (∃ u, e = .returned u) ∧ Inv (k + 1) w') := hst
  clear p h0 hal hsp hst
  go_enter Try.func38, Try.ntmps38
  go_upto_region 2 with fail
  clear c0
  go_loopw [13] (fun i wr => ∃ k : Nat, i = .int .i64 (k : Int) ∧ k ≤ l.length ∧ Hid (Inv k wr)) (fun i _ => l.length - (intOf i).toNat)
  case atStart => exact ⟨0, rfl, Nat.zero_le _, H0⟩
  case round =>
    clear H0
    obtain ⟨k, rfl, hk, hI⟩ := hrel
    by_cases hlt : k < l.length
    · have j0 : (0 : Int) ≤ (k : Int) := by omega
      have j1 : (k : Int) < (l.length : Int) := by omega
      have pw := HS.out k wr hI.out
      obtain ⟨b, off, xo, xc, e, -, m0, m1, m2, m3, m4, m5⟩ := pw.row.mem.get hlt
      subst e
      have kA : Same0 wr (wr.alloc (.cells #[.int .i64 l[k].1, .bool l[k].2.1, .int .i64 l[k].2.2.1, .slice xo l[k].2.2.2.length xc] 30)) := (Kept.refl _ _).alloc _
      have CT := HT.out k hlt (wr.alloc (.cells #[.int .i64 l[k].1, .bool l[k].2.1, .int .i64 l[k].2.2.1, .slice xo l[k].2.2.2.length xc] 30)) xo xc (HA.out _ _ _ hI.out) ⟨m4.at'.same kA, m4.cap', m4.nil, m4.size⟩ m5
      obtain ⟨W3, hW3⟩ : ∃ W3, W3 = wr.alloc (.cells #[.int .i64 l[k].1, .bool l[k].2.1, .int .i64 l[k].2.2.1, .slice xo l[k].2.2.2.length xc] 30) := ⟨_, rfl⟩
      obtain ⟨a0, a1, a2, a3⟩ := box4 (show W3.heap[wr.heap.size]? = some (.cells #[.int .i64 l[k].1, .bool l[k].2.1, .int .i64 l[k].2.2.1, .slice xo l[k].2.2.2.length xc] 30 (0, 0)) by rw [hW3]; exact heap_alloc_new wr _)
      rw [← hW3] at CT
      clear pw m4 m5 kA hI
      go_upto_region 4 with fail
      rw [← hW3]
      clear hW3 m0 m1 m2 m3
      have hl3 : IntKind.i64.wrap ((k : Int) + 1) = (k : Int) + 1 := fwrap (by omega) (by omega)
      go_wp2_with (first | (go_at_call 40; refine CT.mono ?_; rintro e w4 ⟨⟨u, rfl⟩, hI4⟩; have HI4 : Hid (Inv (k + 1) w4) := hI4; clear hI4))
      go_roundw
      case rel => first | exact ⟨k + 1, by go_num, by omega, HI4⟩ | ((repeat apply Exists.intro); exact ⟨⟨k + 1, by go_num, by omega, HI4⟩, rfl⟩)
      case measure => simp [intOf]; omega
    · have hkl : k = l.length := by omega
      subst hkl
      go_wp2
      first | go_end0 | (refine bodyPost_ret (results_none rfl _ _ _) rfl ?_)
      exact ⟨⟨_, rfl⟩, hI.out⟩
theorem each_frames_none (w : World) (q : Nat) : Calls Try.prog 38 #[.pointer none, .func (.func 40) #[.pointer (some ⟨q, 0, none⟩)] #[]] w fun e w' => (∃ u, e = .returned u) ∧ w' = w := by
  go_enter Try.func38, Try.ntmps38
  go_wp2
  first | go_end0 | (refine bodyPost_ret (results_none rfl _ _ _) rfl ?_)
  exact ⟨⟨_, rfl⟩, rfl⟩
end Go.Proofs.Ytikcocjbbbdmgaa
