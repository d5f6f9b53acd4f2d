/- The walks of End and Args of package term. -/
import Derived.Test.YtgoifkbdiicmkaaTermEnd
import Derived.OwnWalk
namespace Go.Proofs.Ytgoifkbdiicmkaa
open Go.RowKit
attribute [local go_sem ↓] Go.wp_at_zero Go.wp_at_succ
/-- The values of numbers. -/
def iv (xs : List Int) : List Value := xs.map (Value.int .i64)
theorem iv_length (xs : List Int) : (iv xs).length = xs.length := by simp [iv]
theorem iv_append (xs ys : List Int) : iv (xs ++ ys) = iv xs ++ iv ys := by simp [iv]
theorem iv_get {xs : List Int} {i : Nat} (h : i < xs.length) : (iv xs)[i]? = some (.int .i64 xs[i]) := by simp [iv, h]
theorem info_int : (Try.prog.info? 3).map (fun i => (i.zero, i.size, i.bytes)) = some (some (.int .i64 0), 1, 8) := by kernel_rfl
/-- A row of numbers of the call's own. -/
abbrev Row (base : Nat) (w : World) (v : Value) (xs : List Int) : Prop := w.ownsRow base 3 1 v xs.length (iv xs)
def endA (L : List Sym) (t : List Int) (a : Int) : Int := if placeE L t a = 0 then (endN L t a.toNat : Int) else 0
def ofN (l : List Nat) : List Int := l.map (fun (x : Nat) => (x : Int))
def argsA (L : List Sym) (t : List Int) (a : Int) : List Int := if placeE L t a = 0 then ofN (argsN L t a.toNat) else []
theorem place_zero {L : List Sym} {t : List Int} {a : Int} (h : placeE L t a = 0) : ∃ p : Nat, a = (p : Int) ∧ p < t.length ∧ checkE L t = 0 ∧ t.length ≤ 2000 ∧ IsT L t := by
  unfold placeE at h
  by_cases hz : checkE L t = 0
  · simp only [hz, ne_eq, not_true, if_false] at h
    have : ¬ (a < 0 ∨ (t.length : Int) ≤ a) := by intro hh; simp [hh] at h
    obtain ⟨h1, _, h2⟩ := checkE_zero.1 hz
    exact ⟨a.toNat, by omega, by omega, hz, h1, h2⟩
  · simp [hz] at h
theorem endI_of {L : List Sym} {t : List Int} (h : IsT L t) {p : Nat} (hp : p < t.length) : endI L t p = (endN L t p : Int) := by
  rw [endI, endO_some h hp]
set_option maxHeartbeats 2000000 in
theorem tend_any {n b : Nat} {w : World} {L : List Sym} (h : Sg n w b L) {ao : Option Addr} {cap : Nat} {t : List Int} (ht : IntsAt w ao t) (hm : t.length ≤ maxLen) (a : Int) :
    Calls Try.prog 22 #[.pointer (some ⟨b, 0, none⟩), .slice ao t.length cap, .int .i64 a] w fun e w' => e = .returned (.tuple #[.int .i64 (endA L t a), .int .i64 (placeE L t a)]) ∧ Same0 w w' := by
  have c := checkPlace_any (cap := cap) h ht hm a
  by_cases hz : placeE L t a = 0
  · obtain ⟨p, rfl, hp, h0, h1, h2⟩ := place_zero hz
    have H : Hid (placeE L t p = 0 ∧ endA L t p = endI L t p) := by
      refine ⟨hz, ?_⟩
      rw [endA, if_pos hz, endI_of h2 hp]; rfl
    have c2 : ∀ w1, Same0 w w1 → Calls Try.prog 41 #[.pointer (some ⟨b, 0, none⟩), .slice ao t.length cap, .int .i64 (p : Int)] w1 fun e w' => e = .returned (.int .i64 (endI L t p)) ∧ Same0 w1 w' := fun w1 hk => end_any (cap := cap) (h.same hk) (ht.same hk) h1 p (by omega)
    rw [hz] at c
    go_enter Try.func22, Try.ntmps22
    go_wp2_with (first | (go_at_call 45; refine c.mono ?_; rintro e w1 ⟨rfl, hk1⟩) | (go_at_call 41; refine (c2 _ hk1).mono ?_; rintro e w2 ⟨rfl, hk2⟩))
    go_ret2
    exact ⟨by rw [H.out.1, H.out.2]; rfl, hk1.trans' hk2⟩
  · have H : Hid (endA L t a = 0) := by show _ = _; rw [endA, if_neg hz]
    have hz' : (placeE L t a == 0) = false := by simpa using hz
    go_enter Try.func22, Try.ntmps22
    go_wp2_with (first | (go_at_call 45; refine c.mono ?_; rintro e w1 ⟨rfl, hk1⟩))
    go_ret2
    exact ⟨by rw [H.out]; rfl, hk1⟩
theorem take_set {α : Type} {l : List α} {k : Nat} (h : k < l.length) (u : α) : (l.set k u).take (k + 1) = l.take k ++ [u] := by
  rw [List.take_add_one, List.take_set_of_le (Nat.le_refl _)]
  simp [h]
theorem Same0.grown {w w1 w2 : World} (h : Same0 w w1) (hg : w1.grownBy w2 none) : Same0 w w2 := Kept.grown h hg (fun _ e _ => by cases e)
theorem Same0.own {w w1 : World} (h : Same0 w w1) {g o : Nat} (hg : w.heap.size ≤ g) (u : Value) : Same0 w (w1.setCell ⟨g, o, none⟩ u) := h.setCell (p := ⟨g, o, none⟩) (fun hlt => by simp at hlt; omega) u
theorem row_put {w : World} {base g cap n : Nat} {e : TypeId} {ys : List Value} (h : w.ownsRow base e 1 (.slice (some ⟨g, 0, none⟩) n cap) n ys) {k : Nat} (hk : k < n) : ∃ old, w.cell? ⟨g, k, none⟩ = some old ∧ w.frozen? ⟨g, k, none⟩ = false := by
  have hl : k < ys.length := by have := h.1; omega
  exact ⟨ys[k], (h.cellAt k (by omega)).trans (List.getElem?_eq_getElem hl), h.frozenAt k⟩
/-- At the head of a round of Args: k places are laid. -/
def Laid (base g A k : Nat) (xs : List Int) (w wr : World) : Prop := ∃ ys : List Value, wr.ownsRow base 3 1 (.slice (some ⟨g, 0, none⟩) A A) A ys ∧ ys.take k = iv xs ∧ Same0 w wr
theorem Laid.next {base g A k : Nat} {xs : List Int} {w wr : World} (h : Laid base g A k xs w wr) (hk : k < A) (hg : w.heap.size ≤ g) (x : Int) : Laid base g A (k + 1) (xs ++ [x]) w (wr.setCell ⟨g, k, none⟩ (.int .i64 x)) := by
  obtain ⟨ys, h1, h2, h3⟩ := h
  have hl : ys.length = A := by have := h1.1; omega
  refine ⟨ys.set k (.int .i64 x), (h1.stored k _).1, ?_, h3.own hg _⟩
  rw [take_set (by omega), h2, iv_append]; rfl
theorem Laid.same {base g A k : Nat} {xs : List Int} {w wr w1 : World} (h : Laid base g A k xs w wr) (hk : Same0 wr w1) : Laid base g A k xs w w1 := by
  obtain ⟨ys, h1, h2, h3⟩ := h
  exact ⟨ys, hk.row h1 (fun _ _ f => f), h2, h3.trans' hk⟩
theorem Laid.row {base g A : Nat} {xs : List Int} {w wr : World} (h : Laid base g A A xs w wr) : Row base wr (.slice (some ⟨g, 0, none⟩) A A) xs ∧ xs.length = A := by
  obtain ⟨ys, h1, h2, _⟩ := h
  have hl : ys.length = A := by have := h1.1; omega
  rw [List.take_of_length_le (by omega)] at h2
  subst h2
  have : xs.length = A := by rw [← hl, iv_length]
  unfold Row
  rw [this]
  exact ⟨h1, rfl⟩
set_option maxHeartbeats 2000000 in
theorem args_any {n b : Nat} {w : World} {L : List Sym} (h : Sg n w b L) {ao : Option Addr} {cap : Nat} {t : List Int} (ht : IntsAt w ao t) (hm : t.length ≤ maxLen) (a : Int) :
    Calls Try.prog 23 #[.pointer (some ⟨b, 0, none⟩), .slice ao t.length cap, .int .i64 a] w fun e w' => ∃ v, e = .returned (.tuple #[v, .int .i64 (placeE L t a)]) ∧ Row w.heap.size w' v (argsA L t a) ∧ Same0 w w' := by
  have c := checkPlace_any (cap := cap) h ht hm a
  by_cases hz : placeE L t a = 0
  · obtain ⟨p, rfl, hp, h0, h1, h2⟩ := place_zero hz
    have H : Hid (placeE L t p = 0 ∧ argsA L t p = ofN (starts L t (arN L t[p]) (p + 1))) := by
      refine ⟨hz, ?_⟩
      rw [argsA, if_pos hz]; simp only [Int.toNat_natCast]; rw [argsN_eq hp]
    have hf := (Forest.one h2 hp).kids.2
    have har := arN_le h.2 t[p]
    have c1 : ∀ w1, Same0 w w1 → Calls Try.prog 43 #[.pointer (some ⟨b, 0, none⟩), .int .i64 t[p]] w1 fun e w' => e = .returned (.int .i64 ((arN L t[p] : Nat) : Int)) ∧ Same0 w1 w' := fun w1 hk => arity_any (h.same hk) t[p]
    have c2 : ∀ w1 q, Same0 w w1 → q < t.length → Calls Try.prog 41 #[.pointer (some ⟨b, 0, none⟩), .slice ao t.length cap, .int .i64 (q : Int)] w1 fun e w' => e = .returned (.int .i64 (endN L t q : Int)) ∧ Same0 w1 w' := fun w1 q hk hq => by
      have := end_any (cap := cap) (h.same hk) (ht.same hk) h1 q (by omega)
      rwa [endI_of h2 hq] at this
    have i1 : (0 : Int) ≤ (p : Int) := by omega
    have i2 : (p : Int) < (t.length : Int) := by omega
    obtain ⟨i, hi, hz0, hz1, hz2⟩ := info_parts info_int
    obtain ⟨tb, off, rfl, htb, hc⟩ := ht.get hp
    have hc' : ∀ w1, Same0 w w1 → w1.cell? ⟨tb, off + p, none⟩ = some (.int .i64 t[p]) := fun w1 hk => (hk.cell (p := ⟨tb, off + p, none⟩) htb (fun f => f)).trans hc
    rw [hz] at c
    generalize hA : arN L t[p] = A at *
    have hA : Hid (arN L t[p] = A) := hA
    go_enter Try.func23, Try.ntmps23
    go_wp2_with (first | (go_at_call 45; refine c.mono ?_; rintro e w1 ⟨rfl, hk1⟩; have d1 := hc' _ hk1) | (go_at_call 43; refine (c1 _ hk1).mono ?_; rintro e w2 ⟨rfl, hk2⟩; have hk3 := hk1.trans' hk2) | (at_make; refine wpList_make_full _ rfl _ _ 24 rfl w.heap.size 3 i _ 1 Try.underlying24 hi hz0 hz1 _ _ _ _ A rfl rfl rfl rfl (by rw [hz2]; omega) (by unfold maxLen; omega) hk3.size ?_; intro w3 hown hgrow))
    have hg : w.heap.size ≤ w2.heap.size := hk3.size
    have L0 : Laid w.heap.size w2.heap.size A 0 (ofN (starts L t 0 (p + 1))) w w3 := ⟨_, hown, by simp [iv, ofN, starts], hk3.grown hgrow⟩
    clear hown
    generalize w2.heap.size = g at *
    go_loopw [10, 30] (fun nx i wr => ∃ k : Nat, k ≤ A ∧ i = .int .i64 (k : Int) ∧ nx = .int .i64 (past L t k (p + 1) : Int) ∧ Laid w.heap.size g A k (ofN (starts L t k (p + 1))) w wr) (fun _ i _ => A - (intOf i).toNat)
    case atStart => exact ⟨0, Nat.zero_le _, rfl, rfl, L0⟩
    case round =>
      obtain ⟨k, hkA, rfl, rfl, hL⟩ := hrel
      by_cases hlt : k < A
      · have hfk := hf.drop (i := k) (by omega)
        rw [show A - k = (A - k - 1) + 1 by omega] at hfk
        have hq : past L t k (p + 1) < t.length := by have := hfk.pos; have := hfk.le; omega
        have e1 : Hid (past L t (k + 1) (p + 1) = endN L t (past L t k (p + 1))) := past_succ L t k (p + 1)
        have e2 : Hid (ofN (starts L t (k + 1) (p + 1)) = ofN (starts L t k (p + 1)) ++ [((past L t k (p + 1) : Nat) : Int)]) := by show _ = _; rw [starts_snoc]; simp [ofN]
        have hLn := hL.next hlt hg ((past L t k (p + 1) : Nat) : Int)
        have hsm : Same0 w (wr.setCell ⟨g, k, none⟩ (.int .i64 ((past L t k (p + 1) : Nat) : Int))) := by obtain ⟨ys, _, _, h3⟩ := hLn; exact h3
        obtain ⟨old, f2, f1⟩ : ∃ old, wr.cell? ⟨g, k, none⟩ = some old ∧ wr.frozen? ⟨g, k, none⟩ = false := by obtain ⟨ys, h1, _⟩ := hL; exact row_put h1 hlt
        have j1 : (0 : Int) ≤ (k : Int) := by omega
        have j2 : (k : Int) < (A : Int) := by omega
        have c3 := c2 _ _ hsm hq
        clear c1 c2 c hc' hfk hL
        generalize hpk : past L t k (p + 1) = P at *
        generalize hpe : endN L t P = E at *
        go_wp2_with (first | (go_at_call 41; refine c3.mono ?_; rintro e w5 ⟨rfl, hk5⟩))
        refine ⟨⟨k + 1, by omega, by go_num, ?_, ?_⟩, by simp [intOf]; omega⟩
        · rw [e1.out]
        · rw [e2.out]; exact hLn.same hk5
      · obtain rfl : k = A := by omega
        obtain ⟨hr, hl⟩ := hL.row
        obtain ⟨_, _, _, hs⟩ := hL
        clear c1 c2 c hc'
        go_wp2
        go_ret2
        refine ⟨.slice (some ⟨g, 0, none⟩) k k, ?_, ?_, hs⟩
        · rw [H.out.1]; rfl
        · rw [H.out.2]; exact hr
  · have H : Hid (argsA L t a = []) := by show _ = _; rw [argsA, if_neg hz]
    have hz' : (placeE L t a == 0) = false := by simpa using hz
    go_enter Try.func23, Try.ntmps23
    go_wp2_with (first | (go_at_call 45; refine c.mono ?_; rintro e w1 ⟨rfl, hk1⟩))
    go_ret2
    refine ⟨_, rfl, ?_, hk1⟩
    rw [H.out]
    exact World.ownsRow_nil _ _ _ _
end Go.Proofs.Ytgoifkbdiicmkaa
