/- Lists of numbers that lie in memory; a signature, the program's and the document's, of the same symbols; the walks of the smallest functions of package term. -/
import Derived.Test.YthhcnllabhfejaaTermPlain
import Derived.Test.YthhcnllabhfejaaRefAdd
import Derived.Test.YthhcnllabhfejaaOpen
import Derived.Handy
namespace Go.Proofs.Ythhcnllabhfejaa
set_option maxRecDepth 100000
open Go.RowKit
attribute [local go_sem ↓] Go.wp_at_zero Go.wp_at_succ
/-- Numbers that lie in memory. -/
def IntsAt (w : World) (ao : Option Addr) (xs : List Int) : Prop :=
  xs = [] ∨ ∃ b off, ao = some ⟨b, off, none⟩ ∧ b < w.heap.size ∧ ∀ i (h : i < xs.length), w.cell? ⟨b, off + i, none⟩ = some (.int .i64 xs[i])
theorem IntsAt.kept {w w' : World} {S : Nat → Prop} {ao : Option Addr} {xs : List Int} (h : IntsAt w ao xs) (hk : Kept S w w') (hs : ∀ a, ao = some a → ¬ S a.block) : IntsAt w' ao xs := by
  refine h.imp id ?_
  rintro ⟨b, off, rfl, hlt, hc⟩
  exact ⟨b, off, rfl, Nat.lt_of_lt_of_le hlt hk.size, fun i hi => (hk.cell (p := ⟨b, off + i, none⟩) hlt (hs ⟨b, off, none⟩ rfl)).trans (hc i hi)⟩
theorem IntsAt.same {w w' : World} {ao : Option Addr} {xs : List Int} (h : IntsAt w ao xs) (hk : Same0 w w') : IntsAt w' ao xs := h.kept hk (fun _ _ f => f)
theorem IntsAt.get {w : World} {ao : Option Addr} {xs : List Int} (h : IntsAt w ao xs) {i : Nat} (hi : i < xs.length) : ∃ b off, ao = some ⟨b, off, none⟩ ∧ b < w.heap.size ∧ w.cell? ⟨b, off + i, none⟩ = some (.int .i64 xs[i]) := by
  rcases h with rfl | ⟨b, off, e, hlt, hc⟩
  · simp at hi
  · exact ⟨b, off, e, hlt, hc i hi⟩
/-- The arities are what Add takes. -/
def Ars (L : List Sym) : Prop := ∀ x ∈ L, 0 ≤ x.ar ∧ x.ar ≤ 6
theorem arN_le {L : List Sym} (h : Ars L) (n : Int) : arN L n ≤ 6 := by
  unfold arN
  split
  · omega
  · split
    · rename_i x hx
      have := h x (List.mem_of_getElem? hx)
      omega
    · omega
/-- A signature: all its blocks lie below n. -/
def Sg (n : Nat) (w : World) (b : Nat) (L : List Sym) : Prop := (∃ sv mr, SigAt w b L sv mr ∧ ∀ k, Foot b sv mr k → k < n) ∧ Ars L
theorem Sg.kept {n b : Nat} {w w' : World} {L : List Sym} {S : Nat → Prop} (h : Sg n w b L) (hk : Kept S w w') (hs : ∀ k, k < n → ¬ S k) : Sg n w' b L := by
  obtain ⟨⟨sv, mr, h1, h2⟩, h3⟩ := h
  exact ⟨⟨sv, mr, h1.kept hk (fun k e => hs k (h2 k e)), h2⟩, h3⟩
theorem Sg.same {n b : Nat} {w w' : World} {L : List Sym} (h : Sg n w b L) (hk : Same0 w w') : Sg n w' b L := h.kept hk (fun _ _ f => f)
/-- The document's list of the symbols. -/
def Rl (n : Nat) (w : World) (rv : Value) (L : List Sym) : Prop := w.ownsRow 0 48 3 rv L.length (symCells L) ∧ (∀ k, rv.ownBlock = some k → k < n) ∧ Ars L ∧ L.length ≤ 64
theorem Rl.kept {n : Nat} {rv : Value} {w w' : World} {L : List Sym} {S : Nat → Prop} (h : Rl n w rv L) (hk : Kept S w w') (hs : ∀ k, k < n → ¬ S k) : Rl n w' rv L :=
  ⟨hk.row h.1 (fun k e => hs k (h.2.1 k e)), h.2⟩
theorem Rl.same {n : Nat} {rv : Value} {w w' : World} {L : List Sym} (h : Rl n w rv L) (hk : Same0 w w') : Rl n w' rv L := h.kept hk (fun _ _ f => f)
theorem Rl.drewN {n : Nat} {rv : Value} {w : World} {L : List Sym} (h : Rl n w rv L) (m : Nat) : Rl n (w.drewN m) rv L := h.same ((Kept.refl _ w).drewN m)
theorem ar_of {L : List Sym} (h : Ars L) {i : Nat} (hi : i < L.length) : ((arN L (i : Int) : Nat) : Int) = L[i].ar := by
  have := (h L[i] (List.getElem_mem hi)).1
  rw [arN, if_neg (by omega)]; simp [hi]; omega
theorem ar_no {L : List Sym} {n : Int} (hn : n < 0 ∨ (L.length : Int) ≤ n) : arN L n = 0 := by
  unfold arN
  rcases hn with h | h
  · simp [h]
  · rw [if_neg (by omega), List.getElem?_eq_none (by omega)]
set_option maxHeartbeats 1000000 in
theorem arity_any {n b : Nat} {w : World} {L : List Sym} (h : Sg n w b L) (x : Int) : Calls Try.prog 68 #[.pointer (some ⟨b, 0, none⟩), .int .i64 x] w fun e w' => e = .returned (.int .i64 ((arN L x : Nat) : Int)) ∧ Same0 w w' := by
  obtain ⟨⟨sv, mr, h1, _⟩, ha⟩ := h
  by_cases hx : x < 0 ∨ (L.length : Int) ≤ x
  · have e1 := ar_no hx
    have H1 : Hid (arN L x = 0) := e1
    clear e1
    have c := at_no h1 x hx
    go_enter Try.func68, Try.ntmps68
    go_wp2_with (first | (go_at_call 62; refine c.mono ?_; rintro e w' ⟨rfl, hk⟩))
    go_ret
    exact ⟨by rw [H1.out]; rfl, hk.alloc _⟩
  · obtain ⟨i, rfl⟩ : ∃ i : Nat, x = (i : Int) := ⟨x.toNat, by omega⟩
    have hi : i < L.length := by omega
    have H1 : Hid (((arN L (i : Int) : Nat) : Int) = L[i].ar) := ar_of ha hi
    have c := at_yes h1 i hi
    go_enter Try.func68, Try.ntmps68
    go_wp2_with (first | (go_at_call 62; refine c.mono ?_; rintro e w' ⟨rfl, hk⟩))
    go_ret
    exact ⟨by rw [H1.out]; rfl, hk.alloc _⟩
set_option maxHeartbeats 1000000 in
theorem isVariable_any (x : Int) (w : World) : Calls Try.prog 67 #[.int .i64 x] w fun e w' => e = .returned (.bool (isV x)) ∧ w' = w := by
  by_cases h1 : -99 ≤ x
  · by_cases h2 : x ≤ -1
    · have H : Hid (isV x = true) := by show _ = _; simp [isV]; omega
      go_enter Try.func67, Try.ntmps67
      go_wp2
      go_ret
      exact ⟨by rw [H.out]; rfl, rfl⟩
    · have H : Hid (isV x = false) := by show _ = _; simp [isV]; omega
      go_enter Try.func67, Try.ntmps67
      go_wp2
      go_ret
      exact ⟨by rw [H.out]; rfl, rfl⟩
  · have H : Hid (isV x = false) := by show _ = _; simp [isV]; omega
    go_enter Try.func67, Try.ntmps67
    go_wp2
    go_ret
    exact ⟨by rw [H.out]; rfl, rfl⟩
def numE (L : List Sym) (x : Int) : Int := if (L.length : Int) ≤ x then 21 else if x < -99 then 22 else 0
theorem sg_len {n b : Nat} {w : World} {L : List Sym} (h : Sg n w b L) : Calls Try.prog 52 #[.pointer (some ⟨b, 0, none⟩)] w fun e w' => e = .returned (.int .i64 (L.length : Int)) ∧ w' = w := by
  obtain ⟨⟨sv, mr, h1, _⟩, ha⟩ := h
  exact len_any h1
set_option maxHeartbeats 1000000 in
theorem checkNumber_any {n b : Nat} {w : World} {L : List Sym} (h : Sg n w b L) (x : Int) : Calls Try.prog 60 #[.pointer (some ⟨b, 0, none⟩), .int .i64 x] w fun e w' => e = .returned (.int .i64 (numE L x)) ∧ w' = w := by
  have c := sg_len h
  by_cases h1 : (L.length : Int) ≤ x
  · have H : Hid (numE L x = 21) := by show _ = _; simp [numE, h1]
    go_enter Try.func60, Try.ntmps60
    go_wp2_with (first | (go_at_call 52; refine c.mono ?_; rintro e w' ⟨rfl, rfl⟩))
    all_goals
      go_ret
      exact ⟨by rw [H.out]; rfl, rfl⟩
  · by_cases h2 : x < 0
    · by_cases h3 : x < -99
      · have H : Hid (numE L x = 22) := by show _ = _; simp [numE, h1, h3]
        have h4 : isV x = false := by simp [isV]; omega
        go_enter Try.func60, Try.ntmps60
        go_wp2_with (first | (go_at_call 52; refine c.mono ?_; rintro e w' ⟨rfl, rfl⟩) | (go_at_call 67; refine (isVariable_any _ _).mono ?_; rintro e w' ⟨rfl, rfl⟩))
        all_goals
          go_ret
          exact ⟨by rw [H.out]; rfl, rfl⟩
      · have H : Hid (numE L x = 0) := by show _ = _; simp [numE, h1, h3]
        have h4 : isV x = true := by simp [isV]; omega
        go_enter Try.func60, Try.ntmps60
        go_wp2_with (first | (go_at_call 52; refine c.mono ?_; rintro e w' ⟨rfl, rfl⟩) | (go_at_call 67; refine (isVariable_any _ _).mono ?_; rintro e w' ⟨rfl, rfl⟩))
        all_goals
          go_ret
          exact ⟨by rw [H.out]; rfl, rfl⟩
    · have H : Hid (numE L x = 0) := by show _ = _; simp [numE, h1]; omega
      go_enter Try.func60, Try.ntmps60
      go_wp2_with (first | (go_at_call 52; refine c.mono ?_; rintro e w' ⟨rfl, rfl⟩))
      all_goals
        go_ret
        exact ⟨by rw [H.out]; rfl, rfl⟩
end Go.Proofs.Ythhcnllabhfejaa
