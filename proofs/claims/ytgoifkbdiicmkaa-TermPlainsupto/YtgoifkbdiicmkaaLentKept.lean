/- The walks of the statements' helpers of layer 2: lent, kept, apart, places. -/
import Derived.Test.YtgoifkbdiicmkaaRefTerm
import Derived.Laws.AppendOwnNone
namespace Go.Proofs.Ytgoifkbdiicmkaa
set_option linter.unusedVariables false
open Go.RowKit
attribute [local go_sem ↓] Go.wp_at_zero Go.wp_at_succ
set_option maxHeartbeats 2000000 in
theorem lent_any {w : World} {ao : Option Addr} {cap : Nat} {xs : List Int} (hx : IntsAt w ao xs) (hn : ao = none → xs.length = 0 ∧ cap = 0) (hsz : xs.length * 8 ≤ 140737488351232) :
    Calls Try.prog 11 #[.slice ao xs.length cap] w fun e w' => ∃ g, e = .returned (.slice (some ⟨g, 0, none⟩) xs.length (xs.length + 1)) ∧ w.heap.size ≤ g ∧ g < w'.heap.size ∧ Row w.heap.size w' (.slice (some ⟨g, 0, none⟩) (xs.length + 1) (xs.length + 1)) (xs ++ [77]) ∧ Same0 w w' := by
  obtain ⟨i, hi, hz0, hz1, hz2⟩ := info_parts info_int
  have b1 : ((xs.length + 1 : Nat) : Int) = (xs.length : Int) + 1 := by omega
  have e0 : 0 + xs.length = xs.length := Nat.zero_add _
  go_enter Try.func11, Try.ntmps11
  go_wp2_with (first
    | (at_make; refine wpList_make_own _ rfl _ _ 24 rfl w.heap.size 3 i _ 1 Try.underlying24 hi hz0 hz1 _ _ _ (xs.length + 1) rfl rfl (by omega) (by rw [hz2]; omega) (by unfold maxLen; omega) (Nat.le_refl _) ?_; intro w1 hown hgrow; have hx1 := hx.same (Same0.grown (Kept.refl _ w) hgrow))
    | (at_builtin; refine wpList_append_fits_any _ rfl (.tmp 6) (.tmp 7) 24 rfl w.heap.size 3 i 1 Try.underlying24 hi hz1 w.heap.size 0 (xs.length + 1) [] rfl hown ao xs.length cap (iv xs) rfl (by rw [iv_length]; omega) hn (fun ad e j u hj => by obtain ⟨ad', e', hc⟩ := hx1.src (by have := (List.getElem?_eq_some_iff.1 hj).1; omega); rw [e] at e'; cases e'; exact hc j u hj) (iv_oneCell xs) (by omega) ?_; intro w2 hown2 hgrow2; rw [e0, List.nil_append] at hown2)
    | (at_builtin; refine wpList_append_fits _ rfl (.tmp 8) (.tmp 9) 24 rfl w.heap.size 3 i 1 Try.underlying24 hi hz1 w.heap.size xs.length (xs.length + 1) (iv xs) (by first | rfl | (rw [e0]; rfl)) (hown2.alloc _) ⟨w2.heap.size, 0, none⟩ 1 1 [.int .i64 77] rfl rfl (cell_one_new _ _ _) (by simp [Value.oneCell']) (by omega) ?_; intro w3 hown3 hgrow3))
  go_ret
  have k1 : Same0 w w1 := Same0.grown (Kept.refl _ w) hgrow
  have k2 : Same0 w w2 := Kept.grown k1 hgrow2 (fun k e hk => by cases e; omega)
  have k3 : Same0 w w3 := Kept.grown (k2.alloc _) hgrow3 (fun k e hk => by cases e; omega)
  have z3 := (hown3.lt _ rfl).2
  refine ⟨w.heap.size, rfl, Nat.le_refl _, z3, ?_, k3⟩
  unfold Row
  rw [iv_append, List.length_append]
  exact hown3
theorem row_prefix {base g : Nat} {w : World} {xs ys : List Int} {m c : Nat} (h : Row base w (.slice (some ⟨g, 0, none⟩) m c) (xs ++ ys)) : IntsAt w (some ⟨g, 0, none⟩) xs := by
  obtain ⟨ao, cap, hv, hi, _, _⟩ := h.ints
  cases hv
  rcases hi with e | ⟨b, off, e, hlt, hc⟩
  · exact .inl (by simp at e; exact e.1)
  · cases e
    refine .inr ⟨_, _, rfl, hlt, fun i hi => ?_⟩
    have := hc i (by simp; omega)
    rwa [List.getElem_append_left hi] at this
/-- A row that is written over: nothing but its block has turned. -/
def Over (base g n : Nat) (w wr : World) : Prop := (∃ ys, wr.ownsRow base 3 1 (.slice (some ⟨g, 0, none⟩) n n) n ys) ∧ Kept (fun k => k = g) w wr
theorem Over.store {base g n : Nat} {w wr : World} (h : Over base g n w wr) (k : Nat) (u : Value) : Over base g n w (wr.setCell ⟨g, k, none⟩ u) := by
  obtain ⟨⟨ys, h1⟩, h2⟩ := h
  exact ⟨⟨_, (h1.stored k u).1⟩, h2.setCell (p := ⟨g, k, none⟩) (fun _ => rfl) u⟩
theorem Same0.after {w w5 w6 : World} {S : Nat → Prop} (h : Same0 w w5) (k : Kept S w5 w6) (hs : ∀ i, i < w.heap.size → ¬ S i) : Same0 w w6 :=
  Kept.trans h k (fun i hi e => (hs i hi e).elim)
def OverA (base : Nat) (v : Value) (B : Nat → Prop) (n : Nat) (w wr : World) : Prop := ∃ zs : List Int, zs.length = n ∧ Row base wr v zs ∧ (∀ k, v.ownBlock = some k → B k) ∧ Kept B w wr
theorem OverA.at {base : Nat} {ao : Option Addr} {cap n : Nat} {B : Nat → Prop} {w wr : World} (h : OverA base (.slice ao n cap) B n w wr) {k : Nat} (hk : k < n) : ∃ g, ao = some ⟨g, 0, none⟩ ∧ ∃ old, wr.cell? ⟨g, k, none⟩ = some old ∧ wr.frozen? ⟨g, k, none⟩ = false := by
  obtain ⟨zs, rfl, h1, _, _⟩ := h
  obtain ⟨g, cap', hv, _, _⟩ := h1.form (by omega)
  cases hv
  exact ⟨g, rfl, row_put h1 hk⟩
theorem OverA.store {base g : Nat} {cap n : Nat} {B : Nat → Prop} {w wr : World} (h : OverA base (.slice (some ⟨g, 0, none⟩) n cap) B n w wr) (k : Nat) (x : Int) : OverA base (.slice (some ⟨g, 0, none⟩) n cap) B n w (wr.setCell ⟨g, k, none⟩ (.int .i64 x)) := by
  obtain ⟨zs, rfl, h1, hB, h2⟩ := h
  refine ⟨zs.set k x, by simp, ?_, hB, h2.setCell (p := ⟨g, k, none⟩) (fun _ => hB g rfl) _⟩
  have := (h1.stored k (.int .i64 x)).1
  unfold Row
  rw [List.length_set]
  have e : iv (zs.set k x) = (iv zs).set k (.int .i64 x) := by simp [iv, List.map_set]
  rw [e]; exact this
set_option maxHeartbeats 4000000 in
theorem kept_any {base g : Nat} {w : World} {lo : Option Addr} {lcap : Nat} {xs : List Int} (hr : Row base w (.slice (some ⟨g, 0, none⟩) (xs.length + 1) (xs.length + 1)) (xs ++ [77])) (hl : IntsAt w lo xs) (hsz : xs.length * 8 ≤ 140737488351232) :
    Calls Try.prog 16 #[.slice (some ⟨g, 0, none⟩) xs.length (xs.length + 1), .slice lo xs.length lcap] w fun e w' => e = .returned (.bool true) ∧ Kept (fun k => k = g) w w' := by
  have c : Calls Try.prog 36 #[.slice (some ⟨g, 0, none⟩) xs.length (xs.length + 1), .slice lo xs.length lcap] w fun e w' => e = .returned (.bool true) ∧ Same0 w w' := by
    have := same_any (acap := xs.length + 1) (bcap := lcap) (row_prefix hr) hl (by unfold maxLen; omega)
    simpa [sameB] using this
  have hrow : Hid (w.ownsRow base 3 1 (.slice (some ⟨g, 0, none⟩) (xs.length + 1) (xs.length + 1)) (xs.length + 1) (iv (xs ++ [77]))) := by
    have := hr
    unfold Row at this
    rw [List.length_append] at this
    exact this
  have h77 : ∀ w1, Same0 w w1 → w1.cell? ⟨g, xs.length, none⟩ = some (.int .i64 77) := fun w1 hk => by
    have h1 := hk.row hrow.out (fun _ _ f => f)
    rw [h1.cellAt xs.length (by omega)]
    simp [iv]
  have i1 : (0 : Int) ≤ (xs.length : Int) := by omega
  have i2 : (xs.length : Int) < ((xs.length + 1 : Nat) : Int) := by omega
  clear hr
  go_enter Try.func16, Try.ntmps16
  go_wp2_with (first | (go_at_call 36; refine c.mono ?_; rintro e w1 ⟨rfl, hk1⟩; have d7 := h77 _ hk1))
  have R0 : Over base g (xs.length + 1) w w1 := ⟨⟨_, hk1.row hrow.out (fun _ _ f => f)⟩, hk1.mono (fun _ _ f => f.elim)⟩
  clear h77 c hrow d7
  go_loopw [7] (fun i wr => ∃ k : Nat, k ≤ xs.length ∧ i = .int .i64 (k : Int) ∧ Over base g (xs.length + 1) w wr) (fun i _ => xs.length - (intOf i).toNat)
  case atStart => exact ⟨0, Nat.zero_le _, rfl, R0⟩
  case round =>
    obtain ⟨k, hk, rfl, hO⟩ := hrel
    by_cases hlt : k < xs.length
    · obtain ⟨old, f1, f2⟩ : ∃ old, wr.cell? ⟨g, k, none⟩ = some old ∧ wr.frozen? ⟨g, k, none⟩ = false := by obtain ⟨⟨ys, h1⟩, _⟩ := hO; exact row_put h1 (by omega)
      have hO' := hO.store k (.int .i64 (-777))
      have j1 : (0 : Int) ≤ (k : Int) := by omega
      have j2 : (k : Int) < (xs.length : Int) := by omega
      have j3 : (k : Int) < ((xs.length + 1 : Nat) : Int) := by omega
      clear hO
      go_wp2
      exact ⟨⟨k + 1, by omega, by go_num, hO'⟩, by simp [intOf]; omega⟩
    · have hk2 := hO.2
      clear hO
      go_wp2
      go_ret
      exact ⟨rfl, hk2⟩
set_option maxHeartbeats 4000000 in
theorem apart_any {base : Nat} {w : World} {va : Value} {bo wo : Option Addr} {bcap wcap : Nat} {ys : List Int} (hr : Row base w va ys) (hb0 : base ≤ w.heap.size) (hb : IntsAt w bo ys) (hw : IntsAt w wo ys) (hbn : ∀ a, bo = some a → va.ownBlock ≠ some a.block) (hwn : ∀ a, wo = some a → va.ownBlock ≠ some a.block) (hbl : ∀ a, bo = some a → a.block < w.heap.size) (hwl : ∀ a, wo = some a → a.block < w.heap.size) (hsz : ys.length ≤ 17592186044000) :
    Calls Try.prog 26 #[va, .slice bo ys.length bcap, .slice wo ys.length wcap] w fun e w' => e = .returned (.bool true) ∧ Kept (fun k => va.ownBlock = some k) w w' := by
  obtain ⟨ao, acap, rfl, ha, hac, hab⟩ := hr.ints
  have c1 : Calls Try.prog 36 #[.slice ao ys.length acap, .slice wo ys.length wcap] w fun e w' => e = .returned (.bool true) ∧ Same0 w w' := by
    have := same_any (acap := acap) (bcap := wcap) ha hw (by unfold maxLen; omega)
    simpa [sameB] using this
  have c2 : ∀ w2, Kept (fun k => Value.ownBlock (.slice ao ys.length acap) = some k ∨ w.heap.size ≤ k) w w2 → Calls Try.prog 36 #[.slice bo ys.length bcap, .slice wo ys.length wcap] w2 fun e w' => e = .returned (.bool true) ∧ Same0 w2 w' := fun w2 hk => by
    have := same_any (acap := bcap) (bcap := wcap) (hb.kept hk (fun a e f => f.elim (hbn a e) (fun f => by have := hbl a e; omega))) (hw.kept hk (fun a e f => f.elim (hwn a e) (fun f => by have := hwl a e; omega))) (by unfold maxLen; omega)
    simpa [sameB] using this
  go_enter Try.func26, Try.ntmps26
  go_wp2_with (first | (go_at_call 36; refine c1.mono ?_; rintro e w1 ⟨rfl, hk1⟩))
  have R0 : OverA base (.slice ao ys.length acap) (fun k => Value.ownBlock (.slice ao ys.length acap) = some k ∨ w.heap.size ≤ k) ys.length w w1 := ⟨ys, rfl, hk1.row hr (fun _ _ f => f), fun k e => .inl e, hk1.mono (fun _ _ f => f.elim)⟩
  obtain ⟨B, hB⟩ : ∃ B : Nat → Prop, B = fun k => Value.ownBlock (.slice ao ys.length acap) = some k ∨ w.heap.size ≤ k := ⟨_, rfl⟩
  rw [← hB] at R0 c2
  have HB : Hid (B = fun k => Value.ownBlock (.slice ao ys.length acap) = some k ∨ w.heap.size ≤ k) := hB
  clear c1 hB hr
  go_loopw [8] (fun i wr => ∃ k : Nat, k ≤ ys.length ∧ i = .int .i64 (k : Int) ∧ OverA base (.slice ao ys.length acap) B ys.length w wr) (fun i _ => ys.length - (intOf i).toNat)
  case atStart => exact ⟨0, Nat.zero_le _, rfl, R0⟩
  case round =>
    obtain ⟨k, hk, rfl, hO⟩ := hrel
    by_cases hlt : k < ys.length
    · obtain ⟨g, rfl, old, f1, f2⟩ := hO.at hlt
      have hO' := hO.store k (-55)
      have j1 : (0 : Int) ≤ (k : Int) := by omega
      have j2 : (k : Int) < (ys.length : Int) := by omega
      clear hO c2
      go_wp2
      exact ⟨⟨k + 1, by omega, by go_num, hO'⟩, by simp [intOf]; omega⟩
    · obtain ⟨wo1, rfl⟩ : ∃ wo1 : World, wo1 = wr := ⟨_, rfl⟩
      have hlt' : ¬ (k : Int) < (ys.length : Int) := by omega
      go_wp2
      go_loopw [0, 9] (fun a i wr => ∃ k : Nat, k ≤ 9 ∧ i = .int .i64 (k : Int) ∧ OverA base a B (ys.length + k) w wr) (fun _ i _ => 9 - (intOf i).toNat)
      case atStart => exact ⟨0, Nat.zero_le _, rfl, hO⟩
      case round =>
        obtain ⟨k2, hk2, rfl, zs, hzl, hrz, hBz, hKz⟩ := hrel
        by_cases hlt2 : k2 < 9
        · obtain ⟨zo, zcap, rfl⟩ := row_shape hrz
          have j1 : (k2 : Int) < 9 := by omega
          have hzs : (zs.length + 1) * 8 ≤ 140737488355328 := by omega
          have hbs : base ≤ wr.heap.size := by have := hKz.size; omega
          have HZ : Hid (zs.length = ys.length + k2) := hzl
          clear hzl c2
          go_wp2_with (first | (at_builtin; refine wpList_push rfl _ _ 24 rfl Try.underlying24 base zs _ rfl hrz (-56) rfl hbs hzs ?_; intro g gcap w4 hr4 hk4 hat4))
          have hO4 : OverA base (.slice (some ⟨g, 0, none⟩) (zs.length + 1) gcap) B (ys.length + (k2 + 1)) w w4 := by
            refine ⟨zs ++ [-56], by have := HZ.out; simp; omega, hr4, ?_, ?_⟩
            · intro k e
              simp only [Value.ownBlock, Option.some.injEq] at e
              subst e
              rcases hat4 with e | e
              · exact hBz _ e
              · rw [HB.out]; right; have := hKz.size; omega
            · exact hKz.trans hk4 (fun i _ e => hBz i e)
          go_roundw
          case rel => first | exact ⟨k2 + 1, by omega, by go_num, hO4⟩ | ((repeat apply Exists.intro); exact ⟨⟨k2 + 1, by omega, by go_num, hO4⟩, rfl⟩)
          case measure => simp [intOf]; omega
        · have hK' := hKz
          have cc := c2 wr hKz
          clear c2 hrz
          go_wp2_with (first | (go_at_call 36; refine cc.mono ?_; rintro e w5 ⟨rfl, hk5⟩))
          go_ret
          refine ⟨rfl, ((hKz.trans hk5 (fun _ _ f => f.elim)).mono ?_)⟩
          intro i hi hBi
          rw [HB.out] at hBi
          exact hBi.resolve_right (by omega)
set_option maxHeartbeats 1000000 in
theorem places_any {n : Nat} {w : World} {rv : Value} {L : List Sym} (h : Rl n w rv L) {ao : Option Addr} {cap : Nat} {t : List Int} (ht : IntsAt w ao t) (hm : t.length ≤ maxLen) (a : Int) :
    Calls Try.prog 17 #[rv, .slice ao t.length cap, .int .i64 a] w fun e w' => e = .returned (.int .i64 (placeE L t a)) ∧ w' = w := by
  have c := rcheck_any (cap := cap) h ht hm
  by_cases hz : checkE L t = 0
  · rw [hz] at c
    by_cases h1 : a < 0
    · have H : Hid (placeE L t a = 24) := by show _ = _; simp [placeE, hz, h1]
      go_enter Try.func17, Try.ntmps17
      go_wp2_with (first | (go_at_call 14; refine c.mono ?_; rintro e w' ⟨rfl, rfl⟩))
      go_ret
      exact ⟨ret_int H.out.symm, rfl⟩
    · by_cases h2 : (t.length : Int) ≤ a
      · have H : Hid (placeE L t a = 24) := by show _ = _; simp [placeE, hz, h2]
        go_enter Try.func17, Try.ntmps17
        go_wp2_with (first | (go_at_call 14; refine c.mono ?_; rintro e w' ⟨rfl, rfl⟩))
        go_ret
        exact ⟨ret_int H.out.symm, rfl⟩
      · have H : Hid (placeE L t a = 0) := by show _ = _; simp [placeE, hz, h1, h2]
        go_enter Try.func17, Try.ntmps17
        go_wp2_with (first | (go_at_call 14; refine c.mono ?_; rintro e w' ⟨rfl, rfl⟩))
        go_ret
        exact ⟨ret_int H.out.symm, rfl⟩
  · have H : Hid (placeE L t a = checkE L t) := by show _ = _; simp [placeE, hz]
    have hz' : (checkE L t == 0) = false := by simpa using hz
    go_enter Try.func17, Try.ntmps17
    go_wp2_with (first | (go_at_call 14; refine c.mono ?_; rintro e w' ⟨rfl, rfl⟩))
    go_ret
    exact ⟨ret_int H.out.symm, rfl⟩
end Go.Proofs.Ytgoifkbdiicmkaa
