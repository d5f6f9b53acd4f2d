/- The walks of law14's lent, held and spoil. -/
import Derived.Test.YtikcocjbbbdmgaaSpineFramesW
namespace Go.Proofs.Ytikcocjbbbdmgaa
set_option maxRecDepth 100000
set_option linter.unusedVariables false
open Go.RowKit
attribute [local go_sem ↓] Go.wp_at_zero Go.wp_at_succ
theorem iv_setF (xs : List Int) (k : Nat) (z : Int) : iv (xs.set k z) = (iv xs).set k (.int .i64 z) := by
  unfold iv
  rw [List.map_set]
theorem ints_threeF (w : World) (z y x : Int) : IntsAt (w.alloc (.cells #[.int .i64 z, .int .i64 y, .int .i64 x] 3)) (some ⟨w.heap.size, 0, none⟩) [z, y, x] :=
  .inr ⟨w.heap.size, 0, rfl, by simp, fun i hi => by
    have hi' : i < 3 := hi
    match i, hi' with
    | 0, _ => exact cellAt (heap_alloc_new w _) 0
    | 1, _ => exact cellAt (heap_alloc_new w _) 1
    | 2, _ => exact cellAt (heap_alloc_new w _) 2⟩
/-- A list that is lent: three marks of the caller's stand behind it. -/
abbrev lentF (xs : List Int) : List Int := xs ++ [-77, -77, -77]
set_option maxHeartbeats 1000000 in
theorem lent14_any {w : World} {ao : Option Addr} {cap : Nat} {xs : List Int} (hx : Arg w ao xs cap) :
    Calls Try.prog 26 #[.slice ao xs.length cap] w fun e w' => ∃ g c, e = .returned (.slice (some ⟨g, 0, none⟩) xs.length c) ∧ Row w.heap.size w' (.slice (some ⟨g, 0, none⟩) (xs.length + 3) c) (lentF xs) ∧ xs.length + 3 ≤ c ∧ Same0 w w' := by
  have k0 : Same0 w (w.alloc (.cells #[] 3)) := (Kept.refl _ w).alloc _
  have r0 : Row w.heap.size (w.alloc (.cells #[] 3)) (.slice (some ⟨w.heap.size, 0, none⟩) 0 0) [] := row_empty w _ (Nat.le_refl _) rfl
  have cI := hx.at'.same k0
  have hn := hx.nil
  have hs : Hid (xs.length * 8 ≤ 140737488351232) := hx.size
  have z0 := k0.size
  have j0 : (0 : Int) ≤ (xs.length : Int) := by omega
  have j8 : (xs.length : Int) ≤ 17592186043904 := by have := hs.out; omega
  clear hx
  go_enter Try.func26, Try.ntmps26
  go_upto_region 2 with (first | (at_builtin; refine wpList_more9 rfl _ _ 28 rfl Try.underlying28 w.heap.size [] _ rfl r0 xs _ _ _ rfl rfl cI hn z0 (by have := hs.out; simp; omega) ?_; intro v1 w1 hr1 hk1))
  rw [List.nil_append] at hr1
  have k1 := k0.onto r0 hk1
  have k2 : Same0 w (w1.alloc (.cells #[.int .i64 (-77), .int .i64 (-77), .int .i64 (-77)] 3)) := k1.alloc _
  have r2 : Row w.heap.size (w1.alloc (.cells #[.int .i64 (-77), .int .i64 (-77), .int .i64 (-77)] 3)) v1 xs := ((Kept.refl (fun _ => False) w1).alloc _).row hr1 (fun _ _ f => f)
  have z2 := k2.size
  have c3 := ints_threeF w1 (-77) (-77) (-77)
  clear cI hn z0 hk1 k0 r0 hr1 k1
  go_upto_region 3 with (first | (at_builtin; refine wpList_more9 rfl _ _ 28 rfl Try.underlying28 w.heap.size xs _ rfl r2 [-77, -77, -77] _ _ _ rfl rfl c3 (fun e => by cases e) z2 (by have := hs.out; simp; omega) ?_; intro v3 w3 hr3 hk3))
  have k3 := k2.onto r2 hk3
  obtain ⟨g, c, e, hle⟩ : ∃ g c, v3 = .slice (some ⟨g, 0, none⟩) (xs.length + 3) c ∧ xs.length + 3 ≤ c := by
    have hr := hr3
    unfold Row at hr
    rcases hr.2 with ⟨e2, h0⟩ | ⟨g, cap, cur, e2, hb, hg, hle, _⟩
    · simp at h0
    · exact ⟨g, cap, by simpa using e2, by simpa using hle⟩
  subst e
  have j1 : (xs.length : Int) ≤ (c : Int) := by omega
  have HF : Hid (Row w.heap.size w3 (.slice (some ⟨g, 0, none⟩) (xs.length + 3) c) (lentF xs) ∧ xs.length + 3 ≤ c ∧ Same0 w w3) := ⟨hr3, hle, k3⟩
  clear hr3 k3 hk3 r2 k2 c3 z2
  go_wp2
  go_ret
  exact ⟨g, c, rfl, HF.out.1, HF.out.2.1, HF.out.2.2⟩
/-- What is left of a list that was lent: from the k-th place on it is as it was. -/
def HdF (base g n c : Nat) (xs : List Int) (w wr : World) (k : Nat) : Prop := (∃ L, Row base wr (.slice (some ⟨g, 0, none⟩) (n + 3) c) L ∧ L.length = n + 3 ∧ ∀ j, k ≤ j → L[j]? = (lentF xs)[j]?) ∧ Kept (fun i => i = g) w wr
theorem HdF.at {base g n c k : Nat} {xs : List Int} {w wr : World} (h : HdF base g n c xs w wr k) {z : Int} (hz : (lentF xs)[k]? = some z) : wr.cell? ⟨g, k, none⟩ = some (.int .i64 z) ∧ wr.frozen? ⟨g, k, none⟩ = false := by
  obtain ⟨⟨L, h1, h2, h3⟩, _⟩ := h
  have hL := h3 k (Nat.le_refl _)
  rw [hz] at hL
  obtain ⟨hk, hv⟩ := List.getElem?_eq_some_iff.1 hL
  obtain ⟨ao, ac, e, hi, _, _⟩ := h1.ints
  simp only [Value.slice.injEq] at e
  obtain ⟨b, off, e1, _, hc⟩ := hi.get hk
  rw [← e.1] at e1
  simp only [Option.some.injEq, Addr.mk.injEq, and_true] at e1
  obtain ⟨rfl, rfl⟩ := e1
  rw [hv] at hc
  refine ⟨by simpa using hc, ?_⟩
  unfold Row at h1
  rw [h2] at h1
  exact h1.frozenAt k
theorem HdF.put {base g n c k : Nat} {xs : List Int} {w wr : World} (h : HdF base g n c xs w wr k) : HdF base g n c xs w (wr.setCell ⟨g, k, none⟩ (.int .i64 (-78))) (k + 1) := by
  obtain ⟨⟨L, h1, h2, h3⟩, h4⟩ := h
  refine ⟨⟨L.set k (-78), ?_, by simp [h2], fun j hj => ?_⟩, Kept.setCell (S := fun i => i = g) h4 (p := ⟨g, k, none⟩) (fun _ => rfl) _⟩
  · unfold Row at h1 ⊢
    rw [iv_setF]
    rw [h2] at h1
    simpa [h2] using (h1.stored k (.int .i64 (-78))).1
  · rw [List.getElem?_set_ne (by omega)]; exact h3 j (by omega)
theorem HdF.same {base g n c k : Nat} {xs : List Int} {w wr wr' : World} (h : HdF base g n c xs w wr k) (hk : Same0 wr wr') : HdF base g n c xs w wr' k := by
  obtain ⟨⟨L, h1, h2, h3⟩, h4⟩ := h
  exact ⟨⟨L, hk.row h1 (fun _ _ f => f), h2, h3⟩, h4.trans hk (fun _ _ f => f.elim)⟩
set_option maxHeartbeats 2000000 in
theorem held14_any {base : Nat} {w : World} {g c cap : Nat} {ao : Option Addr} {xs : List Int} (hr : Row base w (.slice (some ⟨g, 0, none⟩) (xs.length + 3) c) (lentF xs)) (hc : xs.length + 3 ≤ c) (hx : Arg w ao xs cap) (hne : xs ≠ [] → ∀ a, ao = some a → a.block ≠ g) :
    Calls Try.prog 28 #[.slice (some ⟨g, 0, none⟩) xs.length c, .slice ao xs.length cap] w fun e w' => e = .returned (.bool true) ∧ Kept (fun i => i = g) w w' := by
  obtain ⟨n, hn⟩ : ∃ n, n = xs.length := ⟨_, rfl⟩
  have HNL : Hid (n = xs.length) := hn
  have hs : Hid (xs.length * 8 ≤ 140737488351232) := hx.size
  have H0 : Hid (HdF base g n c xs w w 0) := ⟨⟨lentF xs, by rw [hn]; exact hr, by simp [hn], fun j _ => rfl⟩, Kept.refl _ _⟩
  have HXS : Hid (∀ wr, Kept (fun i => i = g) w wr → ∀ k (hk : k < xs.length), ∃ b off, ao = some ⟨b, off, none⟩ ∧ wr.cell? ⟨b, off + k, none⟩ = some (.int .i64 xs[k])) := fun wr hk k hkl => by
    have h0 : xs ≠ [] := fun e => by rw [e] at hkl; simp at hkl
    obtain ⟨b, off, e, _, h3⟩ := (hx.at'.kept hk (fun a e q => hne h0 a e q)).get hkl
    exact ⟨b, off, e, h3⟩
  rw [← hn] at hc ⊢
  have j1 : (n : Int) + 3 ≤ (c : Int) := by omega
  have j2 : (n : Int) ≤ 17592186043904 := by have := hs.out; have := HNL.out; omega
  have j3 : (0 : Int) ≤ (n : Int) + 3 := by omega
  clear hr hx hne hn
  go_enter Try.func28, Try.ntmps28
  go_upto_region 4 with fail
  go_loopw [6, 7] (fun o i wr => ∃ k : Nat, o = .bool true ∧ i = .int .i64 (k : Int) ∧ k ≤ n + 3 ∧ Hid (HdF base g n c xs w wr k)) (fun _ i _ => n + 3 - (intOf i).toNat)
  case atStart => exact ⟨0, rfl, rfl, Nat.zero_le _, H0⟩
  case round =>
    clear H0
    obtain ⟨k, rfl, rfl, hk, H⟩ := hrel
    by_cases hlt : k < n + 3
    · have i0 : (0 : Int) ≤ (k : Int) := by omega
      have i1 : (k : Int) < (n : Int) + 3 := by omega
      by_cases hkn : k < n
      · have hkx : k < xs.length := by rw [← HNL.out]; exact hkn
        obtain ⟨q1, q2⟩ := H.out.at (z := xs[k]) (by rw [List.getElem?_append_left hkx]; exact List.getElem?_eq_getElem hkx)
        obtain ⟨b, off, e, q3⟩ := HXS.out wr H.out.2 k hkx
        subst e
        have i2 : (k : Int) < (n : Int) := by omega
        have i4 : decide (n ≤ k) = false := by simp; omega
        have i5 : decide (k < n) = true := by simp; omega
        have HN : Hid (∀ m, Hid (HdF base g n c xs w ((wr.drewN m).setCell ⟨g, k, none⟩ (.int .i64 (-78))) (k + 1))) := fun m => (H.out.same ((Kept.refl _ _).drewN m)).put
        go_upto_region 6 with fail
        go_quiet (fail)
        go_wp2
        go_roundw
        case rel => exact ⟨k + 1, rfl, by go_num, by omega, HN.out _⟩
        case measure => simp [intOf]; omega
      · have i2 : ¬ (k : Int) < (n : Int) := by omega
        have i4 : decide (n ≤ k) = true := by simp; omega
        have i5 : decide (k < n) = false := by simp; omega
        obtain ⟨q1, q2⟩ := H.out.at (z := -77) (by
          rw [List.getElem?_append_right (by rw [← HNL.out]; omega), ← HNL.out]
          have : k - n < 3 := by omega
          match k - n, this with
          | 0, _ => rfl
          | 1, _ => rfl
          | 2, _ => rfl)
        have HN : Hid (∀ m, Hid (HdF base g n c xs w ((wr.drewN m).setCell ⟨g, k, none⟩ (.int .i64 (-78))) (k + 1))) := fun m => (H.out.same ((Kept.refl _ _).drewN m)).put
        go_upto_region 6 with fail
        go_quiet (fail)
        go_wp2
        go_roundw
        case rel => exact ⟨k + 1, rfl, by go_num, by omega, HN.out _⟩
        case measure => simp [intOf]; omega
    · have hkn : k = n + 3 := by omega
      have i1 : ¬ (k : Int) < (n : Int) + 3 := by omega
      have F : Hid (Kept (fun i => i = g) w wr) := H.out.2
      clear H
      go_wp2
      go_ret
      exact ⟨rfl, F.out⟩
/-- What is left of a list that is spoilt. -/
def SpF (base : Nat) (w : World) (vo : Option Addr) (n vc : Nat) (wr : World) : Prop := (∃ L, Row base wr (.slice vo n vc) L ∧ L.length = n) ∧ Kept (fun i => (Value.slice vo n vc).ownBlock = some i) w wr
set_option maxHeartbeats 2000000 in
theorem spoil14_any {base : Nat} {w : World} {vo : Option Addr} {n vc : Nat} {xs : List Int} (hr : Row base w (.slice vo n vc) xs) (hn : n = xs.length) (hs : xs.length * 8 ≤ 140737488351232) (hb : base ≤ w.heap.size) :
    Calls Try.prog 31 #[.slice vo n vc] w fun e w' => (∃ u, e = .returned u) ∧ Kept (fun i => (Value.slice vo n vc).ownBlock = some i) w w' := by
  have H0 : Hid (SpF base w vo n vc w) := ⟨⟨xs, hr, hn.symm⟩, Kept.refl _ _⟩
  have hn8 : n * 8 ≤ 140737488351232 := by rw [hn]; exact hs
  have HB : Hid (base ≤ w.heap.size) := hb
  clear hr hn hs hb
  go_enter Try.func31, Try.ntmps31
  go_upto_region 1 with fail
  go_loopw [2] (fun i wr => ∃ k : Nat, i = .int .i64 (k : Int) ∧ k ≤ n ∧ Hid (SpF base w vo n vc wr)) (fun i _ => n - (intOf i).toNat)
  case atStart => exact ⟨0, rfl, Nat.zero_le _, H0⟩
  case round =>
    clear H0
    obtain ⟨k, rfl, hk, H⟩ := hrel
    by_cases hlt : k < n
    · have i0 : (0 : Int) ≤ (k : Int) := by omega
      have i1 : (k : Int) < (n : Int) := by omega
      have i2 : IntKind.i64.wrap ((k : Int) + 1) = (k : Int) + 1 := fwrap (by omega) (by omega)
      obtain ⟨⟨L, h1, h2⟩, h3⟩ := H.out
      obtain ⟨g, e⟩ : ∃ g, vo = some ⟨g, 0, none⟩ := by
        rcases h1.2 with ⟨e, q⟩ | ⟨g, cap, cur, e, _⟩
        · simp only [Value.slice.injEq] at e; omega
        · simp only [Value.slice.injEq] at e; exact ⟨g, e.1⟩
      subst e
      unfold Row at h1
      rw [h2] at h1
      obtain ⟨old, c1, c2⟩ := row_put h1 hlt
      have HN : Hid (SpF base w (some ⟨g, 0, none⟩) n vc (wr.setCell ⟨g, k, none⟩ (.int .i64 (-5)))) := by
        refine ⟨⟨L.set k (-5), ?_, by simp [h2]⟩, h3.setCell (p := ⟨g, k, none⟩) (fun _ => rfl) _⟩
        unfold Row
        rw [iv_setF, List.length_set, h2]
        exact (h1.stored k (.int .i64 (-5))).1
      clear h1 h2 h3 H
      go_wp2
      go_roundw
      case rel => first | exact ⟨k + 1, by go_num, by omega, HN⟩ | ((repeat apply Exists.intro); exact ⟨⟨k + 1, by go_num, by omega, HN⟩, rfl⟩)
      case measure => simp [intOf]; omega
    · have hkl : k = n := by omega
      subst hkl
      obtain ⟨⟨L, h1, h2⟩, h3⟩ := H.out
      have ka : Same0 wr (wr.alloc (.cells #[.int .i64 (-6), .int .i64 (-6)] 3)) := (Kept.refl _ _).alloc _
      have r2 : Row base (wr.alloc (.cells #[.int .i64 (-6), .int .i64 (-6)] 3)) (.slice vo L.length vc) L := by
        rw [h2]; exact ka.row h1 (fun _ _ f => f)
      have c2 := (arg_new2 wr (-6) (-6)).at'
      have z2 : base ≤ (wr.alloc (.cells #[.int .i64 (-6), .int .i64 (-6)] 3)).heap.size := Nat.le_trans (Nat.le_trans HB.out h3.size) ka.size
      have H3 : Hid (Kept (fun i => (Value.slice vo k vc).ownBlock = some i) w (wr.alloc (.cells #[.int .i64 (-6), .int .i64 (-6)] 3)) ∧ L.length = k ∧ wr.heap.size < (wr.alloc (.cells #[.int .i64 (-6), .int .i64 (-6)] 3)).heap.size ∧ w.heap.size ≤ wr.heap.size) := ⟨h3.alloc _, h2, by simp, h3.size⟩
      subst h2
      clear h1 h3 ka H
      go_upto_region 5 with (first | (at_builtin; refine wpList_moreL rfl _ _ 28 rfl Try.underlying28 base L vo vc rfl r2 [-6, -6] _ _ _ rfl rfl c2 (fun e => by cases e) z2 (by simp; omega) ?_; intro uo uc w3 r3 k3 hat3))
      obtain ⟨g, e⟩ : ∃ g, uo = some ⟨g, 0, none⟩ := by
        rcases r3.2 with ⟨e, q⟩ | ⟨g, cap, cur, e, _⟩
        · simp at q
        · simp only [Value.slice.injEq] at e; exact ⟨g, e.1⟩
      subst e
      have r3' : w3.ownsRow base 3 1 (.slice (some ⟨g, 0, none⟩) (L.length + 2) uc) (L.length + 2) (iv (L ++ [-6, -6])) := by
        have := r3
        unfold Row at this
        simpa using this
      obtain ⟨old, c3, c4⟩ := row_put r3' (k := L.length) (by omega)
      have j0 : (0 : Int) ≤ (L.length : Int) := by omega
      have j1 : (L.length : Int) < (L.length : Int) + 2 := by omega
      have F : Hid (Kept (fun i => (Value.slice vo L.length vc).ownBlock = some i) w (w3.setCell ⟨g, L.length, none⟩ (.int .i64 (-7)))) := by
        refine (H3.out.1.trans k3 (fun _ _ e => e)).setCell (p := ⟨g, L.length, none⟩) (fun hlt => ?_) _
        rcases hat3 g rfl with q | q
        · exact q
        · have h1 : g < w.heap.size := hlt
          have := H3.out.2.2.1
          have := H3.out.2.2.2
          omega
      clear r3 r3' k3 hat3 H3 r2 c2 z2
      go_wp2
      first | go_end0 | (refine bodyPost_ret (results_none rfl _ _ _) rfl ?_)
      exact ⟨⟨_, rfl⟩, F.out⟩
end Go.Proofs.Ytikcocjbbbdmgaa
