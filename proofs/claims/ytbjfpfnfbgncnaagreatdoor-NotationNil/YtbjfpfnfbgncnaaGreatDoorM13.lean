import Derived.Test.YtbjfpfnfbgncnaaGreatDoorM12
import Derived.Shelf.Abstract
import Derived.Deep.LoopGhost
/- The walks of the reader's parts that take, skip and go on: one kind, two kinds; a row of things with a sign between, whatever reads one. -/
namespace Go.Proofs.YtbjfpfnfbgncnaaGreatDoor
open Go.RowKit
set_option linter.unusedVariables false
set_option maxRecDepth 100000
theorem ints_one (w : World) (a : Int) : IntsAt (w.alloc (.cells #[.int .i64 a] 3)) (some ⟨w.heap.size, 0, none⟩) [a] := by
  refine .inr ⟨_, 0, rfl, by go_size, fun i hi => ?_⟩
  have : i = 0 := by simpa using hi
  subst this
  simp
theorem ints_two (w : World) (a b : Int) : IntsAt (w.alloc (.cells #[.int .i64 a, .int .i64 b] 3)) (some ⟨w.heap.size, 0, none⟩) [a, b] := by
  refine .inr ⟨_, 0, rfl, by go_size, fun i hi => ?_⟩
  have : i = 0 ∨ i = 1 := by simp at hi; omega
  rcases this with rfl | rfl <;> simp
theorem Kept.behind {S : Nat → Prop} {w w' : World} {o : Obj} (h : Kept S (w.alloc o) w') : Kept S w w' := (Kept.alloc (Kept.refl S w) o).trans h (fun _ _ s => s)
theorem take1_ok {w : World} {rb tb : Nat} {t : Tok} {r : List Tok} (h : RdAt w rb tb (t :: r)) (k : Int) (hk : (t.kind : Int) = k) :
    Calls Tryz.prog 52 #[.pointer (some ⟨rb, 0, none⟩), .slice (some ⟨w.heap.size, 0, none⟩) 1 1] (w.alloc (.cells #[.int .i64 k] 3)) fun e w' => e = .returned (aggT t) ∧ RdAt w' rb tb r ∧ Kept (fun i => i = rb) w w' :=
  (take_ok (h.same (Kept.alloc (Kept.refl _ w) _)) (ints_one w k) 1 (by simp) (by simp [hk])).mono (fun e w' ⟨a, b, c⟩ => ⟨a, b, c.behind⟩)
theorem take1_bad {w : World} {rb tb : Nat} {t : Tok} {r : List Tok} (h : RdAt w rb tb (t :: r)) (k : Int) (hk : ¬ (t.kind : Int) = k) :
    Calls Tryz.prog 52 #[.pointer (some ⟨rb, 0, none⟩), .slice (some ⟨w.heap.size, 0, none⟩) 1 1] (w.alloc (.cells #[.int .i64 k] 3)) fun e w' => GaveUp w.heap.size w' e 41 t.at' ∧ Same0 w w' :=
  (take_bad (h.same (Kept.alloc (Kept.refl _ w) _)) (ints_one w k) 1 (by simp) (by simp [hk])).mono (fun e w' ⟨a, b⟩ => ⟨a.mono (by go_size), b.behind⟩)
theorem take2_ok {w : World} {rb tb : Nat} {t : Tok} {r : List Tok} (h : RdAt w rb tb (t :: r)) (hk : t.kind = 2 ∨ t.kind = 1) :
    Calls Tryz.prog 52 #[.pointer (some ⟨rb, 0, none⟩), .slice (some ⟨w.heap.size, 0, none⟩) 2 2] (w.alloc (.cells #[.int .i64 2, .int .i64 1] 3)) fun e w' => e = .returned (aggT t) ∧ RdAt w' rb tb r ∧ Kept (fun i => i = rb) w w' :=
  (take_ok (h.same (Kept.alloc (Kept.refl _ w) _)) (ints_two w 2 1) 2 (by simp) (by simp; omega)).mono (fun e w' ⟨a, b, c⟩ => ⟨a, b, c.behind⟩)
theorem take2_bad {w : World} {rb tb : Nat} {t : Tok} {r : List Tok} (h : RdAt w rb tb (t :: r)) (hk : ¬ (t.kind = 2 ∨ t.kind = 1)) :
    Calls Tryz.prog 52 #[.pointer (some ⟨rb, 0, none⟩), .slice (some ⟨w.heap.size, 0, none⟩) 2 2] (w.alloc (.cells #[.int .i64 2, .int .i64 1] 3)) fun e w' => GaveUp w.heap.size w' e 41 t.at' ∧ Same0 w w' :=
  (take_bad (h.same (Kept.alloc (Kept.refl _ w) _)) (ints_two w 2 1) 2 (by simp) (by simp; omega)).mono (fun e w' ⟨a, b⟩ => ⟨a.mono (by go_size), b.behind⟩)
set_option maxHeartbeats 1000000 in
theorem skip_yes {w : World} {rb tb : Nat} {t : Tok} {r : List Tok} (h : RdAt w rb tb (t :: r)) (k : Nat) (hk : t.kind = k) :
    Calls Tryz.prog 53 #[.pointer (some ⟨rb, 0, none⟩), .int .i64 (k : Int)] w fun e w' => e = .returned (.bool true) ∧ RdAt w' rb tb r ∧ Kept (fun i => i = rb) w w' := by
  have c1 := next_any h
  have c2 := take1_ok h (k : Int) (by rw [hk])
  rw [hk] at c1
  clear h hk
  go_enter Tryz.func53, Tryz.ntmps53
  go_wp2_with (first | (go_at_call 87; refine c1.mono ?_; rintro e w' ⟨rfl, rfl⟩) | (go_at_call 52; refine c2.mono ?_; rintro e w' ⟨rfl, h1, h2⟩))
  go_ret
  exact ⟨rfl, h1, h2⟩
set_option maxHeartbeats 1000000 in
theorem skip_no {w : World} {rb tb : Nat} {t : Tok} {r : List Tok} (h : RdAt w rb tb (t :: r)) (k : Nat) (hk : ¬ t.kind = k) :
    Calls Tryz.prog 53 #[.pointer (some ⟨rb, 0, none⟩), .int .i64 (k : Int)] w fun e w' => e = .returned (.bool false) ∧ w' = w := by
  have c1 := next_any h
  have hne : ((t.kind : Int) == (k : Int)) = false := by simp; omega
  clear h
  go_enter Tryz.func53, Tryz.ntmps53
  go_wp2_with (first | (go_at_call 87; refine c1.mono ?_; rintro e w' ⟨rfl, rfl⟩))
  go_ret
  exact ⟨rfl, rfl⟩
/-- One thing, and another one behind each such sign. -/
def rowR {α : Type} (one : List Tok → α → Except Nat (α × List Tok)) (sign : Nat) : Nat → List Tok → α → Except Nat (α × List Tok)
  | 0, _, _ => .error 0
  | n + 1, ts, a => match one ts a with
    | .error p => .error p
    | .ok (a', []) => .ok (a', [])
    | .ok (a', c :: r) => if c.kind = sign then rowR one sign n r a' else .ok (a', c :: r)
/-- What a reading comes to: it goes on, or it was given up. -/
def Comes {α : Type} (sz : α → Nat) (B base rb tb : Nat) (ts : List Tok) (A : α → World → Prop) (Fr : World → Prop) (R : Except Nat (α × List Tok)) (e : Ending) (w' : World) : Prop := match R with
  | .ok (a, r) => e = .returned (.tuple #[]) ∧ RdAt w' rb tb r ∧ A a w' ∧ EndsT r ∧ r.length < ts.length ∧ sz a + r.length ≤ B
  | .error p => GaveUp base w' e 41 p ∧ Fr w'
/-- What reads one thing, by a function value. -/
def Reads {α : Type} (sz : α → Nat) (F B base rb tb G : Nat) (caps : Array Value) (one : List Tok → α → Except Nat (α × List Tok)) (A : α → World → Prop) (Fr : World → Prop) : Prop :=
  ∀ ts a w, EndsT ts → ts.length ≤ F → sz a + ts.length ≤ B → RdAt w rb tb ts → A a w → Calls Tryz.prog G caps w (Comes sz B base rb tb ts A Fr (one ts a))
/-- What is still to come, behind one thing. -/
def rowC {α : Type} (one : List Tok → α → Except Nat (α × List Tok)) (sign n : Nat) (a : α) : List Tok → Except Nat (α × List Tok)
  | [] => .ok (a, [])
  | c :: r => if c.kind = sign then rowR one sign n r a else .ok (a, c :: r)
theorem rowR_ok {α : Type} {one : List Tok → α → Except Nat (α × List Tok)} {sign n : Nat} {ts r : List Tok} {a a' : α} (h : one ts a = .ok (a', r)) : rowR one sign (n + 1) ts a = rowC one sign n a' r := by
  cases r <;> simp [rowR, rowC, h]
theorem rowR_error {α : Type} {one : List Tok → α → Except Nat (α × List Tok)} {sign n p : Nat} {ts : List Tok} {a : α} (h : one ts a = .error p) : rowR one sign (n + 1) ts a = .error p := by
  simp [rowR, h]
/-- Between two things. -/
structure RowAt {α : Type} (sz : α → Nat) (B base rb tb sign : Nat) (one : List Tok → α → Except Nat (α × List Tok)) (A : α → World → Prop) (ts : List Tok) (R : Except Nat (α × List Tok)) (n : Nat) (wr : World) (a : α) (r : List Tok) : Prop where
  rd : RdAt wr rb tb r
  acc : A a wr
  ends : EndsT r
  lt : r.length < ts.length
  le : r.length ≤ n
  few : sz a + r.length ≤ B
  eq : R = rowC one sign n a r
set_option maxHeartbeats 2000000 in
theorem row_any {α : Type} {sz : α → Nat} {F B base rb tb G sign : Nat} {caps : Array Value} {one : List Tok → α → Except Nat (α × List Tok)} {A : α → World → Prop} {Fr : World → Prop}
    (eg : Enters Tryz.prog G) (hone : Reads sz F B base rb tb G caps one A Fr) (hA : ∀ a w w', A a w → Kept (fun i => i = rb) w w' → A a w') (hs : sign ≠ 13) (n : Nat)
    {ts : List Tok} {a : α} {w : World} (hn : ts.length ≤ n + 1) (he : EndsT ts) (hF : ts.length ≤ F) (hz : sz a + ts.length ≤ B) (hr : RdAt w rb tb ts) (ha : A a w) :
    Calls Tryz.prog 54 #[.pointer (some ⟨rb, 0, none⟩), .int .i64 (sign : Int), .func (.func G) #[] caps] w (Comes sz B base rb tb ts A Fr (rowR one sign (n + 1) ts a)) := by
  have HO : Hid (Reads sz F B base rb tb G caps one A Fr) := hone
  have c0 := hone ts a w he hF hz hr ha
  have HA : Hid (∀ a w w', A a w → Kept (fun i => i = rb) w w' → A a w') := hA
  clear hone hA
  have eg2 : ∀ args W, (callFunc G args).run Tryz.prog W = .ok (.enter G args) W := eg
  cases h1 : one ts a with
  | error p =>
    rw [rowR_error h1]
    rw [h1] at c0
    clear h1
    go_enter Tryz.func54, Tryz.ntmps54
    go_wp2_with (first | (go_at_fn G; refine c0.mono ?_; rintro e w' ⟨⟨b, rfl, h2, h3⟩, h4⟩))
    exact ⟨rfl, ⟨b, rfl, h2, h3⟩, h4⟩
  | ok v =>
    obtain ⟨a1, r1⟩ := v
    rw [rowR_ok h1]
    rw [h1] at c0
    clear h1
    obtain ⟨R, hR⟩ : ∃ R, rowC one sign n a1 r1 = R := ⟨_, rfl⟩
    have HR : Hid (R = rowC one sign n a1 r1) := hR.symm
    rw [hR]
    clear hR
    go_enter Tryz.func54, Tryz.ntmps54
    go_wp2_with (first | (go_at_fn G; refine c0.mono ?_; rintro e w' ⟨rfl, h2, h3, h4, h5, h6⟩))
    go_loopg [] n (fun k wr => ∃ a' r', RowAt sz B base rb tb sign one A ts R k wr a' r')
    case atStart => exact ⟨a1, r1, h2, h3, h4, h5, by omega, h6, HR.out⟩
    case round =>
      obtain ⟨a', r', h⟩ := hrel
      clear h2 h3 h4 h5 h6 c0 HR hr ha he hz
      cases r' with
      | nil => exact absurd rfl h.ends.ne
      | cons c q =>
        have hq := h.le
        have hlt := h.lt
        simp only [List.length_cons] at hq hlt
        by_cases hk : c.kind = sign
        · obtain ⟨g, rfl⟩ : ∃ g, gk = g + 1 := ⟨gk - 1, by omega⟩
          have e1 : R = rowR one sign (g + 1) q a' := by rw [h.eq]; simp [rowC, hk]
          have hE := h.ends.next (by omega)
          have c1 := skip_yes h.rd sign hk
          have hacc := h.acc
          have hfew := h.few
          simp only [List.length_cons] at hfew
          clear h hk
          have H2 : Hid (∀ w, RdAt w rb tb q → A a' w → Calls Tryz.prog G caps w (Comes sz B base rb tb q A Fr (one q a'))) := fun w x y => HO.out q a' w hE (by omega) (by omega) x y
          cases h1 : one q a' with
          | error p =>
            rw [rowR_error h1] at e1
            rw [h1] at H2
            subst e1
            clear h1
            go_wp2_with (first | (go_at_call 53; refine c1.mono ?_; rintro e w1 ⟨rfl, k1, k2⟩; have k3 := HA.out _ _ _ hacc k2) | (go_at_fn G; refine (H2.out _ k1 k3).mono ?_; rintro e w' ⟨⟨b, rfl, h2, h3⟩, h4⟩))
            exact ⟨rfl, ⟨b, rfl, h2, h3⟩, h4⟩
          | ok v =>
            obtain ⟨a2, r2⟩ := v
            rw [rowR_ok h1] at e1
            rw [h1] at H2
            have HE : Hid (R = rowC one sign g a2 r2) := e1
            clear h1 e1
            go_wp2_with (first | (go_at_call 53; refine c1.mono ?_; rintro e w1 ⟨rfl, k1, k2⟩; have k3 := HA.out _ _ _ hacc k2) | (go_at_fn G; refine (H2.out _ k1 k3).mono ?_; rintro e w' ⟨rfl, h2, h3, h4, h5, h6⟩))
            go_roundg g
            case rel => exact ⟨a2, r2, h2, h3, h4, by omega, by omega, h6, HE.out⟩
            case measure => omega
        · have e1 : R = .ok (a', c :: q) := by rw [h.eq]; simp [rowC, hk]
          have c1 := skip_no h.rd sign hk
          subst e1
          have HH : Hid (RowAt sz B base rb tb sign one A ts (.ok (a', c :: q)) gk wr a' (c :: q)) := h
          clear h hk
          go_wp2_with (first | (go_at_call 53; refine c1.mono ?_; rintro e w1 ⟨rfl, rfl⟩))
          go_end0
          exact ⟨rfl, HH.out.rd, HH.out.acc, HH.out.ends, HH.out.lt, HH.out.few⟩
end Go.Proofs.YtbjfpfnfbgncnaaGreatDoor
