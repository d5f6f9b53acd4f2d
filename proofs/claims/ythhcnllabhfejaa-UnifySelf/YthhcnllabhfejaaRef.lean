/- The walks of the document's signature (ref01): Find, Add, Of; and of the law's small helpers. -/
import Derived.Test.YthhcnllabhfejaaSigAtW
import Derived.Test.YthhcnllabhfejaaNames
import Derived.Deep.RegionLaw
import Derived.Deep.DrawnRows
import Derived.Deep.DeepCutAuto
namespace Go.Proofs.Ythhcnllabhfejaa
set_option maxRecDepth 100000
open Go.RowKit
attribute [local go_sem ↓] Go.wp_at_zero Go.wp_at_succ
def findR (L : List Sym) (s : ByteArray) : Int := match findI L s with | some i => (i : Int) | none => -1
theorem findI_first {L : List Sym} {s : ByteArray} {k : Nat} (hk : k < L.length) (h : L[k].name = s) (hb : ∀ j (hj : j < L.length), j < k → L[j].name ≠ s) : findI L s = some k := by
  induction L generalizing k with
  | nil => simp at hk
  | cons y r ih =>
    simp only [findI]
    cases k with
    | zero => simp at h; simp [h]
    | succ j =>
      have h0 : y.name ≠ s := hb 0 (by simp) (by omega)
      rw [if_neg h0, ih (k := j) (by simpa using hk) (by simpa using h) (fun i hi hij => by have := hb (i + 1) (by simpa using hi) (by omega); simpa using this)]
      rfl
theorem findI_all {L : List Sym} {s : ByteArray} (hb : ∀ j (hj : j < L.length), L[j].name ≠ s) : findI L s = none := by
  induction L with
  | nil => rfl
  | cons y r ih =>
    simp only [findI]
    have h0 : y.name ≠ s := hb 0 (by simp)
    rw [if_neg h0, ih (fun j hj => by have := hb (j + 1) (by simpa using hj); simpa using this)]
    rfl
theorem row_sym {w : World} {base : Nat} {L : List Sym} {ao : Option Addr} {cap : Nat} (h : w.ownsRow base 48 3 (.slice ao L.length cap) L.length (symCells L)) {i : Nat} (hi : i < L.length) :
    ∃ g, ao = some ⟨g, 0, none⟩ ∧ g < w.heap.size ∧ w.cell? ⟨g, i * 3, none⟩ = some (.string L[i].name) ∧ w.cell? ⟨g, i * 3 + 1, none⟩ = some (.int .i64 L[i].ar) ∧ w.cell? ⟨g, i * 3 + 2, none⟩ = some (.bool L[i].df) := by
  obtain ⟨g, cap', hv, _, hlt⟩ := h.form (by omega)
  obtain ⟨rfl, _, rfl⟩ : ao = some ⟨g, 0, none⟩ ∧ L.length = L.length ∧ cap = cap' := by simpa using hv
  have hc := fun j hj => h.cellAt j hj
  obtain ⟨a1, a2, a3⟩ := symCells_at hi
  refine ⟨g, rfl, hlt, ?_, ?_, ?_⟩
  · rw [hc _ (by omega), a1]
  · rw [hc _ (by omega), a2]
  · rw [hc _ (by omega), a3]
set_option maxHeartbeats 1000000 in
theorem rfind_any {w : World} {base : Nat} {L : List Sym} {v : Value} (hr : w.ownsRow base 48 3 v L.length (symCells L)) (hlen : L.length ≤ 64) (s : ByteArray) :
    Calls Try.prog 35 #[v, .string s] w fun e w' => e = .returned (.int .i64 (findR L s)) ∧ w' = w := by
  obtain ⟨ao, cap, rfl⟩ := row_shape hr
  go_enter Try.func35, Try.ntmps35
  go_wp2
  go_loop [5] (fun i => ∃ k : Nat, k ≤ L.length ∧ i = .int .i64 k ∧ ∀ j (hj : j < L.length), j < k → L[j].name ≠ s) (fun i => L.length - (intOf i).toNat)
  case atStart => exact ⟨0, Nat.zero_le _, rfl, fun j _ h => by omega⟩
  case round =>
    obtain ⟨k, hk, rfl, hal⟩ := hrel
    by_cases hlt : k < L.length
    · obtain ⟨g, rfl, hg, x0, x1, x2⟩ := row_sym hr hlt
      have i1 : (0 : Int) ≤ (k : Int) := by omega
      have i2 : (k : Int) < (L.length : Int) := by omega
      by_cases he : L[k].name = s
      · have hf : findR L s = (k : Int) := by rw [findR, findI_first hlt he hal]
        have HF : Hid (findR L s = (k : Int)) := hf
        clear hf
        go_wp2
        go_ret
        exact ⟨ret_int HF.out.symm, rfl⟩
      · have hnx : ∀ j (hj : j < L.length), j < k + 1 → L[j].name ≠ s := by
          intro j hj h2
          by_cases e : j = k
          · subst e; exact he
          · exact hal j hj (by omega)
        have he' := str_ne he
        go_wp2
        go_round
        case rel => exact ⟨k + 1, by omega, by go_num, hnx⟩
        case measure => simp [intOf]; omega
    · have hf : findR L s = -1 := by rw [findR, findI_all (fun j hj => hal j hj (by omega))]
      have HF : Hid (findR L s = -1) := hf
      clear hf
      go_wp2
      go_ret
      exact ⟨ret_int HF.out.symm, rfl⟩
/-- Block rb is the document's signature of these symbols. -/
structure RefAt (w : World) (rb : Nat) (L : List Sym) (rv : Value) : Prop where
  blk : w.heap[rb]? = some (.cells #[rv] 52 (0, 0))
  row : w.ownsRow 0 48 3 rv L.length (symCells L)
  apart : rv.ownBlock ≠ some rb
def RFoot (rb : Nat) (rv : Value) (k : Nat) : Prop := k = rb ∨ rv.ownBlock = some k
theorem RefAt.kept {S : Nat → Prop} {w w' : World} {rb : Nat} {L : List Sym} {rv : Value} (h : RefAt w rb L rv) (hk : Kept S w w') (hn : ∀ k, RFoot rb rv k → ¬ S k) : RefAt w' rb L rv :=
  ⟨hk.at h.blk (hn rb (.inl rfl)), hk.row h.row (fun k e => hn k (.inr e)), h.apart⟩
theorem RefAt.lt {w : World} {rb : Nat} {L : List Sym} {rv : Value} (h : RefAt w rb L rv) : ∀ k, RFoot rb rv k → k < w.heap.size := by
  intro k hk
  rcases hk with rfl | e
  · exact lt_of_at h.blk
  · exact (h.row.lt k e).2
theorem RefAt.c0 {w : World} {rb : Nat} {L : List Sym} {rv : Value} (h : RefAt w rb L rv) : w.cell? ⟨rb, 0, none⟩ = some rv := cellAt h.blk 0
theorem RefAt.f0 {w : World} {rb : Nat} {L : List Sym} {rv : Value} (h : RefAt w rb L rv) : w.frozen? ⟨rb, 0, none⟩ = false := frozenAt h.blk 0
/-- What ref's Add leaves in memory. -/
def RMoved (w : World) (rb : Nat) (rv : Value) (L' : List Sym) (w' : World) : Prop :=
  ∃ rv', RefAt w' rb L' rv' ∧ Kept (RFoot rb rv) w w' ∧ ∀ k, RFoot rb rv' k → RFoot rb rv k ∨ w.heap.size ≤ k
theorem findR_some {L : List Sym} {s : ByteArray} (h : (findI L s).isSome = true) : 0 ≤ findR L s := by
  unfold findR
  cases hf : findI L s with
  | none => simp [hf] at h
  | some i => simp
theorem findR_none {L : List Sym} {s : ByteArray} (h : (findI L s).isSome = false) : findR L s = -1 := by
  unfold findR
  cases hf : findI L s with
  | none => rfl
  | some i => simp [hf] at h
set_option maxHeartbeats 2000000 in
theorem radd_no {w : World} {rb : Nat} {L : List Sym} {rv : Value} (h : RefAt w rb L rv) (hlen : L.length ≤ 64) (x : Sym) (hs : x.name.size ≤ maxLen) (hz : addErr L x ≠ 0) :
    Calls Try.prog 23 #[.pointer (some ⟨rb, 0, none⟩), symV x] w fun e w' => e = .returned (.tuple #[.int .i64 0, .int .i64 (addErr L x)]) ∧ Kept (fun _ => False) w w' := by
  have h1 : RefAt (w.alloc (boxOf x)) rb L rv := h.kept (Kept.alloc (Kept.refl (fun _ => False) w) _) (fun _ _ f => f)
  have h2 : ∀ m, RefAt ((w.alloc (boxOf x)).drewN m) rb L rv := fun m => h1.kept (Kept.drewN (Kept.refl (fun _ => False) _) m) (fun _ _ f => f)
  obtain ⟨ao, cap, rfl⟩ := row_shape h.row
  have c0 := h1.c0
  cases hn : nameB x.name with
  | false =>
    have he : addErr L x = 10 := by simp [addErr, hn]
    have HE : Hid (addErr L x = 10) := he
    clear he
    go_enter Try.func23, Try.ntmps23
    go_wp2_with (first | (go_at_call 34; refine (rIsName_any _ _ hs).mono ?_; rintro e w' ⟨rfl, rfl⟩))
    go_ret2
    exact ⟨by rw [HE.out]; rfl, Kept.alloc (Kept.refl _ w) _⟩
  | true =>
    by_cases ha : x.ar < 0
    · have HE : Hid (addErr L x = 11) := by show addErr L x = 11; simp [addErr, hn, ha]
      go_enter Try.func23, Try.ntmps23
      go_wp2_with (first | (go_at_call 34; refine (rIsName_any _ _ hs).mono ?_; rintro e w' ⟨rfl, rfl⟩))
      go_ret2
      exact ⟨by rw [HE.out]; rfl, Kept.alloc (Kept.refl _ w) _⟩
    · by_cases hb : 6 < x.ar
      · have HE : Hid (addErr L x = 11) := by show addErr L x = 11; simp [addErr, hn, hb]
        go_enter Try.func23, Try.ntmps23
        go_wp2_with (first | (go_at_call 34; refine (rIsName_any _ _ hs).mono ?_; rintro e w' ⟨rfl, rfl⟩))
        go_ret2
        exact ⟨by rw [HE.out]; rfl, Kept.alloc (Kept.refl _ w) _⟩
      · cases hf : (findI L x.name).isSome with
        | true =>
          have HE : Hid (addErr L x = 12) := by show addErr L x = 12; simp [addErr, hn, ha, hb, hf]
          have hfr := findR_some hf
          go_enter Try.func23, Try.ntmps23
          go_wp2_with (first | (go_at_call 34; refine (rIsName_any _ _ hs).mono ?_; rintro e w' ⟨rfl, rfl⟩))
          go_quiet ((go_at_call 35; exact Calls.quiet_of_same (rfind_any (h2 _).row hlen x.name)))
          go_wp2
          go_ret2
          exact ⟨by rw [HE.out]; rfl, Kept.drewN (Kept.alloc (Kept.refl _ w) _) _⟩
        | false =>
          have hm : 64 ≤ L.length := by
            rcases Nat.lt_or_ge L.length 64 with h | h
            · exact absurd (by simp [addErr, hn, ha, hb, hf]; omega) hz
            · exact h
          have HE : Hid (addErr L x = 13) := by show addErr L x = 13; simp [addErr, hn, ha, hb, hf, hm]
          have hfr := findR_none hf
          go_enter Try.func23, Try.ntmps23
          go_wp2_with (first | (go_at_call 34; refine (rIsName_any _ _ hs).mono ?_; rintro e w' ⟨rfl, rfl⟩))
          go_quiet ((go_at_call 35; exact Calls.quiet_of_same (rfind_any (h2 _).row hlen x.name)))
          go_wp2
          go_ret2
          exact ⟨by rw [HE.out]; rfl, Kept.drewN (Kept.alloc (Kept.refl _ w) _) _⟩
end Go.Proofs.Ythhcnllabhfejaa
