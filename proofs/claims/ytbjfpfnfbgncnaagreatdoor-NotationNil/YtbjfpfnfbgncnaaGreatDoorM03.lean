import Derived.Test.YtbjfpfnfbgncnaaGreatDoorM02
import Derived.Lib.OthersKept
import Derived.Test.YtbjfpfnfbgncnaaGreatDoorM01
import Derived.Below
import Derived.WalkKit
import Derived.WideShapes
import Derived.Test.YtbjfpfnfbgncnaaGreatDoorProg
import Derived.WalkSpells
import Derived.WalkLawsBesides
import Derived.LoopTactic
/- Runes of a text, by the model's own decoding: how wide they are, which bytes they take, and that a text's end is decoded as it lies; no program in sight. -/
namespace Go.Proofs.YtbjfpfnfbgncnaaGreatDoor
open Go.RowKit
set_option linter.unusedVariables false
def wd (s : ByteArray) (p : Nat) : Nat := (Utf8.decode s p).2
def ru (s : ByteArray) (p : Nat) : Nat := (Utf8.decode s p).1
theorem wd_ascii {s : ByteArray} {p : Nat} (h : p < s.size) (ha : s[p].toNat < 128) : wd s p = 1 := by unfold wd; rw [decode_ascii s p h ha]
theorem ru_ascii {s : ByteArray} {p : Nat} (h : p < s.size) (ha : s[p].toNat < 128) : ru s p = s[p].toNat := by unfold ru; rw [decode_ascii s p h ha]
theorem ru_high {s : ByteArray} {p : Nat} (h : p < s.size) (ha : 128 ≤ s[p].toNat) : 128 ≤ ru s p := (decode_high s p h ha).1
theorem wd_pos {s : ByteArray} {p : Nat} (h : p < s.size) : 1 ≤ wd s p := by
  by_cases ha : s[p].toNat < 128
  · rw [wd_ascii h ha]; exact Nat.le_refl _
  · exact (decode_high s p h (by omega)).2
theorem get_bang (s : ByteArray) (i : Nat) (h : i < s.size) : s.get! i = s[i] := get_at s i h
/-- All bytes of a rune but the first are 128 or more, and they lie in the text. -/
theorem wd_bytes {s : ByteArray} {p : Nat} (h : p < s.size) : ∀ k, 0 < k → k < wd s p → ∃ hk : p + k < s.size, 128 ≤ (s[p + k]).toNat := by
  intro k h0 hk
  have hc : ∀ k, (decide (p + k < s.size) && (s.get! (p + k)).toNat / 64 == 2) = true → ∃ hk : p + k < s.size, 128 ≤ (s[p + k]).toNat := by
    intro k e
    simp only [Bool.and_eq_true, decide_eq_true_eq, beq_iff_eq] at e
    refine ⟨e.1, ?_⟩
    rw [← get_bang s (p + k) e.1]
    omega
  unfold wd Utf8.decode at hk
  simp only at hk
  repeat' split at hk
  all_goals simp only at hk
  all_goals first
    | omega
    | (rcases (show k = 1 ∨ k = 2 ∨ k = 3 by omega) with rfl | rfl | rfl
       all_goals first
         | omega
         | exact hc _ (by simp_all))
theorem wd_le {s : ByteArray} {p : Nat} (h : p < s.size) : p + wd s p ≤ s.size := by
  have h1 := wd_pos h
  by_cases e : wd s p = 1
  · omega
  · obtain ⟨hk, _⟩ := wd_bytes h (wd s p - 1) (by omega) (by omega)
    omega
/-- The text from a place on. -/
def tail (s : ByteArray) (a : Nat) : ByteArray := s.extract a s.size
theorem tail_size (s : ByteArray) (a : Nat) (h : a ≤ s.size) : (tail s a).size = s.size - a := by simp [tail]
theorem tail_get (s : ByteArray) (a i : Nat) (h : i < (tail s a).size) (h' : a + i < s.size) : (tail s a)[i] = s[a + i] := by
  unfold tail
  exact ByteArray.getElem_extract h
theorem tail_bang (s : ByteArray) (a i : Nat) (ha : a ≤ s.size) : (tail s a).get! i = s.get! (a + i) := by
  by_cases h : a + i < s.size
  · rw [get_bang s _ h, get_bang (tail s a) i (by rw [tail_size s a ha]; omega), tail_get s a i _ h]
  · have h1 : ¬ i < (tail s a).size := by rw [tail_size s a ha]; omega
    simp only [ByteArray.get!]
    rw [getElem!_neg _ _ (by simpa using h1), getElem!_neg _ _ (by simpa using h)]
theorem decode_tail (s : ByteArray) (a p : Nat) (ha : a ≤ s.size) : Utf8.decode (tail s a) p = Utf8.decode s (a + p) := by
  unfold Utf8.decode
  have e1 : ∀ k, (tail s a).get! (p + k) = s.get! (a + p + k) := fun k => by rw [tail_bang s a _ ha, Nat.add_assoc]
  have e2 : ∀ k, decide (p + k < (tail s a).size) = decide (a + p + k < s.size) := fun k => by rw [decide_eq_decide, tail_size s a ha]; omega
  simp only [e1, e2]
/-- From one place to another, by so many runes. -/
def ReachN (s : ByteArray) : Nat → Nat → Nat → Prop
  | 0, p, q => p = q
  | n + 1, p, q => p < s.size ∧ ReachN s n (p + wd s p) q
/-- From one place to another, rune by rune. -/
def Reach (s : ByteArray) (p q : Nat) : Prop := ∃ n, ReachN s n p q
theorem Reach.refl {s : ByteArray} (p : Nat) : Reach s p p := ⟨0, rfl⟩
theorem Reach.step {s : ByteArray} (p q : Nat) (h : p < s.size) (hr : Reach s (p + wd s p) q) : Reach s p q := by
  obtain ⟨n, hn⟩ := hr
  exact ⟨n + 1, h, hn⟩
theorem ReachN.le {s : ByteArray} {n : Nat} : ∀ {p q : Nat}, ReachN s n p q → p ≤ q := by
  induction n with
  | zero => intro p q h; exact Nat.le_of_eq h
  | succ n ih => intro p q h; have := ih h.2; omega
theorem Reach.le {s : ByteArray} {p q : Nat} (h : Reach s p q) : p ≤ q := by
  obtain ⟨n, hn⟩ := h
  exact hn.le
theorem ReachN.snoc {s : ByteArray} {n : Nat} : ∀ {p q : Nat}, ReachN s n p q → q < s.size → ReachN s (n + 1) p (q + wd s q) := by
  induction n with
  | zero => intro p q h hq; cases h; exact ⟨hq, rfl⟩
  | succ n ih => intro p q h hq; exact ⟨h.1, ih h.2 hq⟩
theorem Reach.snoc {s : ByteArray} {p q : Nat} (h : Reach s p q) (hq : q < s.size) : Reach s p (q + wd s q) := by
  obtain ⟨n, hn⟩ := h
  exact ⟨n + 1, hn.snoc hq⟩
theorem Reach.next {s : ByteArray} {p q : Nat} (h : Reach s p q) (hpq : p < q) : Reach s (p + wd s p) q := by
  obtain ⟨n, hn⟩ := h
  cases n with
  | zero => have : p = q := hn; omega
  | succ n => exact ⟨n, hn.2⟩
theorem ReachN.tail {s : ByteArray} {a : Nat} (ha : a ≤ s.size) {n : Nat} : ∀ {p q : Nat}, ReachN (tail s a) n p q → ReachN s n (a + p) (a + q) := by
  induction n with
  | zero => intro p q h; cases h; exact rfl
  | succ n ih =>
    intro p q h
    obtain ⟨hp, h⟩ := h
    have h2 := ih h
    have e : wd (YtbjfpfnfbgncnaaGreatDoor.tail s a) p = wd s (a + p) := by unfold wd; rw [decode_tail s a p ha]
    rw [e] at h2
    refine ⟨by rw [tail_size s a ha] at hp; omega, ?_⟩
    rw [Nat.add_assoc]; exact h2
theorem Reach.tail {s : ByteArray} {a : Nat} (ha : a ≤ s.size) {p q : Nat} (h : Reach (tail s a) p q) : Reach s (a + p) (a + q) := by
  obtain ⟨n, hn⟩ := h
  exact ⟨n, hn.tail ha⟩
end Go.Proofs.YtbjfpfnfbgncnaaGreatDoor
/- Small laws that all stages' texts take: what was returned, texts that part, a world in which nothing old has turned; no program in sight. -/
namespace Go.Proofs.YtbjfpfnfbgncnaaGreatDoor
open Go.RowKit
theorem ret_bool {a b : Bool} (h : a = b) : Ending.returned (.bool a) = .returned (.bool b) := by rw [h]
theorem ret_int {k : IntKind} {a b : Int} (h : a = b) : Ending.returned (.int k a) = .returned (.int k b) := by rw [h]
theorem str_ne {a b : ByteArray} (h : ¬ a = b) : (a.toList == b.toList) = false  := by
  rw [beq_eq_false_iff_ne]
  intro e
  rw [ByteArray.toList_eq, ByteArray.toList_eq] at e
  exact h (Go.WideShapes.bytes_inj e)
/-- Nothing that was there has turned. -/
abbrev Same0 : World → World → Prop := Kept (fun _ => False)
theorem Same0.trans' {a b c : World} (h : Same0 a b) (k : Same0 b c) : Same0 a c := Kept.trans h k (fun _ _ f => f)
theorem Same0.of_below {w w' : World} (h : Below w.heap.size w w') : Same0 w w' := ⟨h.os, h.tape, h.output, h.size, fun k hk _ => h.block k hk⟩
theorem Same0.below {w w' : World} (h : Same0 w w') : Below w.heap.size w w' := Kept.below h (Nat.le_refl _) (fun _ _ f => f)
theorem Same0.at0 {w w' : World} (h : Same0 w w') {b : Nat} {o : Obj} (hb : w.heap[b]? = some o) : w'.heap[b]? = some o := Kept.at h hb (fun f => f)
end Go.Proofs.YtbjfpfnfbgncnaaGreatDoor
/- The walks of the smallest functions of package lex and of the document's answer: kinds of bytes and runes. -/
namespace Go.Proofs.YtbjfpfnfbgncnaaGreatDoor
open Go.RowKit
set_option linter.unusedVariables false
set_option linter.unusedSimpArgs false
set_option maxHeartbeats 400000 in
theorem lsmall_any (c : Int) (w : World) : Calls Tryz.prog 97 #[.int .i32 c] w fun e w' => e = .returned (.bool (smB c)) ∧ w' = w := by
  unfold smB
  by_cases h : 97 ≤ c
  all_goals
    go_enter Tryz.func97, Tryz.ntmps97
    go_wp2
    go_ret
    exact ⟨by simp [h] <;> omega, rfl⟩
set_option maxHeartbeats 400000 in
theorem lgreat_any (c : Int) (w : World) : Calls Tryz.prog 98 #[.int .i32 c] w fun e w' => e = .returned (.bool (grB c)) ∧ w' = w := by
  unfold grB
  by_cases h : 65 ≤ c
  all_goals
    go_enter Tryz.func98, Tryz.ntmps98
    go_wp2
    go_ret
    exact ⟨by simp [h] <;> omega, rfl⟩
set_option maxHeartbeats 400000 in
theorem ldigit_any (c : Int) (w : World) : Calls Tryz.prog 99 #[.int .i32 c] w fun e w' => e = .returned (.bool (dgB c)) ∧ w' = w := by
  unfold dgB
  by_cases h : 48 ≤ c
  all_goals
    go_enter Tryz.func99, Tryz.ntmps99
    go_wp2
    go_ret
    exact ⟨by simp [h] <;> omega, rfl⟩
/-- The kind of the piece that a rune begins. -/
def begunZ (r : Int) : Int := if smB r = true then 1 else if grB r = true then 2 else if dgB r = true then 3 else if r = 9 then -2 else if r = 10 then -2 else if r = 13 then -2 else if r = 32 then -2 else if r = 37 then -1 else if r = 40 then 4 else if r = 41 then 5 else if r = 44 then 6 else if r = 59 then 7 else if r = 45 then 8 else if r = 47 then 9 else if r = 46 then 10 else if r = 58 then 11 else if r = 42 then 12 else 0
set_option maxHeartbeats 4000000 in
theorem begun_any (r : Int) (w : World) : Calls Tryz.prog 77 #[.int .i32 r] w fun e w' => e = .returned (.int .i64 (begunZ r)) ∧ w' = w := by
  go_enter Tryz.func77, Tryz.ntmps77
  go_wp2_with (first | (go_at_call 97; refine (lsmall_any _ _).mono ?_; rintro e w' ⟨rfl, rfl⟩) | (go_at_call 98; refine (lgreat_any _ _).mono ?_; rintro e w' ⟨rfl, rfl⟩) | (go_at_call 99; refine (ldigit_any _ _).mono ?_; rintro e w' ⟨rfl, rfl⟩))
  all_goals
    go_ret
    refine ⟨ret_int ?_, rfl⟩
    simp_all [begunZ]
/-- Does a rune, so many bytes behind a piece's beginning, belong to it? -/
def onZ (kind at' r : Int) : Bool := if kind = 2 then grB r || (smB r || dgB r) else if kind = 1 then smB r || dgB r else if kind = 3 then dgB r else if kind = 8 then decide (at' = 1) && (r == 62) else if kind = -1 then r != 10 else false
set_option maxHeartbeats 4000000 in
theorem goesOn_any (kind at' r : Int) (w : World) : Calls Tryz.prog 100 #[.int .i64 kind, .int .i64 at', .int .i32 r] w fun e w' => e = .returned (.bool (onZ kind at' r)) ∧ w' = w := by
  by_cases h1 : at' = 1
  all_goals
    go_enter Tryz.func100, Tryz.ntmps100
    go_wp2_with (first | (go_at_call 97; refine (lsmall_any _ _).mono ?_; rintro e w' ⟨rfl, rfl⟩) | (go_at_call 98; refine (lgreat_any _ _).mono ?_; rintro e w' ⟨rfl, rfl⟩) | (go_at_call 99; refine (ldigit_any _ _).mono ?_; rintro e w' ⟨rfl, rfl⟩))
    all_goals
      go_ret
      refine ⟨ret_bool ?_, rfl⟩
      simp_all [onZ]
set_option maxHeartbeats 400000 in
theorem isToken_any (kind : Int) (w : World) : Calls Tryz.prog 80 #[.int .i64 kind] w fun e w' => e = .returned (.bool (decide (0 < kind))) ∧ w' = w := by
  go_enter Tryz.func80, Tryz.ntmps80
  go_wp2
  go_ret
  exact ⟨rfl, rfl⟩
theorem u8_eq (b : UInt8) (n : Nat) (h : n < 256) : ((b.toNat : Int) = (n : Int)) ↔ b = UInt8.ofNat n := by
  rw [← UInt8.toNat_inj, UInt8.toNat_ofNat']
  have : n % 2 ^ 8 = n := Nat.mod_eq_of_lt h
  rw [this]; omega
def blankZ (c : Int) : Bool := decide (c = 9 ∨ c = 10 ∨ c = 13 ∨ c = 32)
theorem blankZ_eq (b : UInt8) : blankZ (b.toNat : Int) = blankB b := by
  have h1 : ((b.toNat : Int) = 9) ↔ b = 9 := u8_eq b 9 (by omega)
  have h2 : ((b.toNat : Int) = 10) ↔ b = 10 := u8_eq b 10 (by omega)
  have h3 : ((b.toNat : Int) = 13) ↔ b = 13 := u8_eq b 13 (by omega)
  have h4 : ((b.toNat : Int) = 32) ↔ b = 32 := u8_eq b 32 (by omega)
  unfold blankZ blankB
  rw [decide_eq_decide, h1, h2, h3, h4]
def markZ (c : Int) : Int := if c = 40 then 4 else if c = 41 then 5 else if c = 44 then 6 else if c = 59 then 7 else if c = 47 then 9 else if c = 46 then 10 else if c = 58 then 11 else if c = 42 then 12 else 0
theorem markZ_eq (b : UInt8) : markZ (b.toNat : Int) = (markK b : Int) := by
  have h0 : ((b.toNat : Int) = 40) ↔ b = 40 := u8_eq b 40 (by omega)
  have h1 : ((b.toNat : Int) = 41) ↔ b = 41 := u8_eq b 41 (by omega)
  have h2 : ((b.toNat : Int) = 44) ↔ b = 44 := u8_eq b 44 (by omega)
  have h3 : ((b.toNat : Int) = 59) ↔ b = 59 := u8_eq b 59 (by omega)
  have h4 : ((b.toNat : Int) = 47) ↔ b = 47 := u8_eq b 47 (by omega)
  have h5 : ((b.toNat : Int) = 46) ↔ b = 46 := u8_eq b 46 (by omega)
  have h6 : ((b.toNat : Int) = 58) ↔ b = 58 := u8_eq b 58 (by omega)
  have h7 : ((b.toNat : Int) = 42) ↔ b = 42 := u8_eq b 42 (by omega)
  unfold markZ markK
  simp only [h0, h1, h2, h3, h4, h5, h6, h7]
  clear h0 h1 h2 h3 h4 h5 h6 h7
  repeat' split
  all_goals rfl
end Go.Proofs.YtbjfpfnfbgncnaaGreatDoor
/- The walk of the piece that a text begins with (package lex). -/
namespace Go.Proofs.YtbjfpfnfbgncnaaGreatDoor
open Go.RowKit
set_option linter.unusedVariables false
theorem onZ_high {kind j r : Int} (h : 128 ≤ r) : onZ kind j r = decide (kind = -1) := by
  have h1 : smB r = false := by unfold smB; simp; omega
  have h2 : grB r = false := by unfold grB; simp; omega
  have h3 : dgB r = false := by unfold dgB; simp; omega
  have h4 : (r == 62) = false := by simp; omega
  have h5 : (r != 10) = true := by simp; omega
  unfold onZ
  rw [h1, h2, h3, h4, h5]
  repeat' split
  all_goals simp_all
/-- Does the byte at place j belong to a piece of that kind? -/
def pB (kind : Int) (j : Nat) (b : UInt8) : Bool := onZ kind (j : Int) (b.toNat : Int)
/-- n bytes of the text are its first piece, of that kind. -/
structure Piece (kind : Int) (t : ByteArray) (n : Nat) : Prop where
  pos : 1 ≤ n
  le : n ≤ t.size
  reach : Reach t 0 n
  all : (∀ h : 0 < t.size, t[0].toNat < 128) → ∀ j, 0 < j → j < n → ∀ h : j < t.size, pB kind j t[j] = true
  stop : ∀ h : n < t.size, pB kind n t[n] = false
/-- What holds ahead of a rune. -/
def Gone (kind : Int) (t : ByteArray) (p : Nat) : Prop := p ≤ t.size ∧ Reach t 0 p ∧ ((∀ h : 0 < t.size, t[0].toNat < 128) → ∀ j, 0 < j → j < p → ∀ h : j < t.size, pB kind j t[j] = true)
theorem Gone.start (kind : Int) (t : ByteArray) : Gone kind t 0 := ⟨Nat.zero_le _, .refl _, fun _ j _ h => by omega⟩
theorem Gone.first {kind : Int} {t : ByteArray} (h : 0 < t.size) : Gone kind t (0 + wd t 0) := by
  refine ⟨wd_le h, Reach.snoc (.refl _) h, fun ha j h0 h1 hj => ?_⟩
  rw [wd_ascii h (ha h)] at h1
  omega
theorem Gone.more {kind : Int} {t : ByteArray} {p : Nat} (g : Gone kind t p) (hp : p < t.size) (h : onZ kind (p : Int) (ru t p : Int) = true) : Gone kind t (p + wd t p) := by
  refine ⟨wd_le hp, g.2.1.snoc hp, fun ha j h0 h1 hj => ?_⟩
  by_cases hlt : j < p
  · exact g.2.2 ha j h0 hlt hj
  · by_cases h128 : t[p].toNat < 128
    · rw [wd_ascii hp h128] at h1
      obtain rfl : j = p := by omega
      rw [ru_ascii hp h128] at h
      exact h
    · have hr := ru_high hp (by omega)
      rw [onZ_high (by omega)] at h
      unfold pB
      rw [onZ_high ?_]
      · exact h
      · by_cases e : j = p
        · subst e; omega
        · obtain ⟨k, rfl⟩ : ∃ k, j = p + k := ⟨j - p, by omega⟩
          obtain ⟨_, hb⟩ := wd_bytes hp k (by omega) (by omega)
          omega
theorem Gone.stop {kind : Int} {t : ByteArray} {p : Nat} (g : Gone kind t p) (hp : p < t.size) (h0 : 0 < p) (h : onZ kind (p : Int) (ru t p : Int) = false) : Piece kind t p := by
  refine ⟨h0, g.1, g.2.1, g.2.2, fun hp => ?_⟩
  by_cases h128 : t[p].toNat < 128
  · rw [ru_ascii hp h128] at h; exact h
  · have hr := ru_high hp (by omega)
    rw [onZ_high (by omega)] at h
    unfold pB
    rw [onZ_high (by omega)]; exact h
theorem Gone.whole {kind : Int} {t : ByteArray} {p : Nat} (g : Gone kind t p) (hp : ¬ p < t.size) (h0 : 0 < t.size) : Piece kind t t.size := by
  obtain rfl : p = t.size := by have := g.1; omega
  exact ⟨h0, Nat.le_refl _, g.2.1, g.2.2, fun h => by omega⟩
theorem extract_all (t : ByteArray) : t.extract 0 t.size = t := by
  apply ByteArray.ext
  simp
set_option maxHeartbeats 4000000 in
theorem first_any (kind : Int) (t : ByteArray) (w : World) (hs : t.size ≤ 20000) (h0 : 0 < t.size) :
    Calls Tryz.prog 78 #[.int .i64 kind, .string t] w fun e w' => (∃ n, e = .returned (.string (t.extract 0 n)) ∧ Piece kind t n) ∧ Below w.heap.size w w' := by
  go_enter Tryz.func78, Tryz.ntmps78
  go_wp2
  go_loopw [] (fun wr => ∃ p : Nat, wr.heap[w.heap.size]? = some (.stringIter t p) ∧ Below w.heap.size w wr ∧ Gone kind t p) (fun wr => t.size - wr.iterPos w.heap.size)
  case atStart =>
    refine ⟨0, World.iter_heap w t 0, (Below.refl _ w).alloc (Nat.le_refl _) _, Gone.start kind t⟩
  case round =>
    obtain ⟨p, hit, hbw, hg⟩ := hrel
    by_cases hp : p < t.size
    · have hnx : ∀ ty, (Instr.next (.pointer (some ⟨w.heap.size, 0, none⟩)) true ty).run Tryz.prog wr = .ok (.tuple #[.bool true, .int .i64 p, .int .i32 (ru t p)]) (wr.iterAt w.heap.size t (p + wd t p)) := fun ty => Lib.run_next_any_at wr w.heap.size t p ty hit hp
      have hwd := wd_pos hp
      have hit2 := Lib.iterAt_heap wr w.heap.size t p (p + wd t p) hit
      have hbw2 := Lib.below_iterAt hbw (k := w.heap.size) (Nat.le_refl _) t (p + wd t p)
      have hms : t.size - (wr.iterAt w.heap.size t (p + wd t p)).iterPos w.heap.size < t.size - wr.iterPos w.heap.size := by
        simp only [World.iterPos, hit2, hit]; omega
      by_cases hz : 0 < p
      · cases hon : onZ kind (p : Int) (ru t p : Int) with
        | true =>
          have hG := hg.more hp hon
          go_wp2_with (go_at_call 100; refine (goesOn_any _ _ _ _).mono ?_; rintro e w' ⟨rfl, rfl⟩)
          go_roundw
          case rel => exact ⟨_, hit2, hbw2, hG⟩
          case measure => exact hms
        | false =>
          have hG := hg.stop hp hz hon
          go_wp2_with (go_at_call 100; refine (goesOn_any _ _ _ _).mono ?_; rintro e w' ⟨rfl, rfl⟩)
          go_ret
          exact ⟨⟨p, by simp, hG⟩, hbw2⟩
      · have hG : Gone kind t (p + wd t p) := by
          obtain rfl : p = 0 := by omega
          exact Gone.first h0
        go_wp2
        go_roundw
        case rel => exact ⟨_, hit2, hbw2, hG⟩
        case measure => exact hms
    · have hnx : ∀ ty, (Instr.next (.pointer (some ⟨w.heap.size, 0, none⟩)) true ty).run Tryz.prog wr = .ok (.tuple #[.bool false]) wr := fun ty => Lib.run_next_end_at wr w.heap.size t p ty hit hp
      have hG := hg.whole hp h0
      go_wp2
      go_ret
      exact ⟨⟨t.size, by rw [extract_all]; rfl, hG⟩, hbw⟩
end Go.Proofs.YtbjfpfnfbgncnaaGreatDoor
