import Derived.Test.YtbjfpfnfbgncnaaGreatDoorM08
import Derived.Test.YtbjfpfnfbgncnaaGreatDoorM11
import Derived.Handy
import Derived.Test.YtbjfpfnfbgncnaaGreatDoorM07
import Derived.Deep.QuietTactic
/- Lists of numbers that lie in memory; a signature, the program's and the document's, of the same symbols; the walks of the smallest functions of package term. -/
namespace Go.Proofs.YtbjfpfnfbgncnaaGreatDoor
set_option maxRecDepth 100000
open Go.RowKit
attribute [local go_sem ↓] Go.wp_at_zero Go.wp_at_succ
/-- Numbers that lie in memory. -/
def IntsAt (w : World) (ao : Option Addr) (xs : List Int) : Prop :=
  xs = [] ∨ ∃ b off, ao = some ⟨b, off, none⟩ ∧ b < w.heap.size ∧ ∀ i (h : i < xs.length), w.cell? ⟨b, off + i, none⟩ = some (.int .i64 xs[i])
theorem IntsAt.kept {w w' : World} {S : Nat → Prop} {ao : Option Addr} {xs : List Int} (h : IntsAt w ao xs) (hk : Kept S w w') (hs : ∀ a, ao = some a → ¬ S a.block) : IntsAt w' ao xs := by
  refine h.imp id ?_
  rintro ⟨b, off, rfl, hlt, hc⟩
  exact ⟨b, off, rfl, Nat.lt_of_lt_of_le hlt hk.size, fun i hi => (hk.cell (p := ⟨b, off + i, none⟩) hlt (hs ⟨b, off, none⟩ rfl)).trans (hc i hi)⟩
theorem IntsAt.same {w w' : World} {ao : Option Addr} {xs : List Int} (h : IntsAt w ao xs) (hk : Same0 w w') : IntsAt w' ao xs := h.kept hk (fun _ _ f => f)
theorem IntsAt.get {w : World} {ao : Option Addr} {xs : List Int} (h : IntsAt w ao xs) {i : Nat} (hi : i < xs.length) : ∃ b off, ao = some ⟨b, off, none⟩ ∧ b < w.heap.size ∧ w.cell? ⟨b, off + i, none⟩ = some (.int .i64 xs[i]) := by
  rcases h with rfl | ⟨b, off, e, hlt, hc⟩
  · simp at hi
  · exact ⟨b, off, e, hlt, hc i hi⟩
/-- The arities are what Add takes. -/
def Ars (L : List Sym) : Prop := ∀ x ∈ L, 0 ≤ x.ar ∧ x.ar ≤ 6
theorem arN_le {L : List Sym} (h : Ars L) (n : Int) : arN L n ≤ 6 := by
  unfold arN
  split
  · omega
  · split
    · rename_i x hx
      have := h x (List.mem_of_getElem? hx)
      omega
    · omega
/-- A signature: all its blocks lie below n. -/
def Sg (n : Nat) (w : World) (b : Nat) (L : List Sym) : Prop := (∃ sv mr, SigAt w b L sv mr ∧ ∀ k, Foot b sv mr k → k < n) ∧ Ars L
theorem Sg.kept {n b : Nat} {w w' : World} {L : List Sym} {S : Nat → Prop} (h : Sg n w b L) (hk : Kept S w w') (hs : ∀ k, k < n → ¬ S k) : Sg n w' b L := by
  obtain ⟨⟨sv, mr, h1, h2⟩, h3⟩ := h
  exact ⟨⟨sv, mr, h1.kept hk (fun k e => hs k (h2 k e)), h2⟩, h3⟩
theorem Sg.same {n b : Nat} {w w' : World} {L : List Sym} (h : Sg n w b L) (hk : Same0 w w') : Sg n w' b L := h.kept hk (fun _ _ f => f)
/-- The document's list of the symbols. -/
def Rl (n : Nat) (w : World) (rv : Value) (L : List Sym) : Prop := w.ownsRow 0 95 3 rv L.length (symCells L) ∧ (∀ k, rv.ownBlock = some k → k < n) ∧ Ars L ∧ L.length ≤ 64
theorem Rl.kept {n : Nat} {rv : Value} {w w' : World} {L : List Sym} {S : Nat → Prop} (h : Rl n w rv L) (hk : Kept S w w') (hs : ∀ k, k < n → ¬ S k) : Rl n w' rv L :=
  ⟨hk.row h.1 (fun k e => hs k (h.2.1 k e)), h.2⟩
theorem Rl.same {n : Nat} {rv : Value} {w w' : World} {L : List Sym} (h : Rl n w rv L) (hk : Same0 w w') : Rl n w' rv L := h.kept hk (fun _ _ f => f)
theorem Rl.drewN {n : Nat} {rv : Value} {w : World} {L : List Sym} (h : Rl n w rv L) (m : Nat) : Rl n (w.drewN m) rv L := h.same ((Kept.refl _ w).drewN m)
theorem ar_of {L : List Sym} (h : Ars L) {i : Nat} (hi : i < L.length) : ((arN L (i : Int) : Nat) : Int) = L[i].ar := by
  have := (h L[i] (List.getElem_mem hi)).1
  rw [arN, if_neg (by omega)]; simp [hi]; omega
theorem ar_no {L : List Sym} {n : Int} (hn : n < 0 ∨ (L.length : Int) ≤ n) : arN L n = 0 := by
  unfold arN
  rcases hn with h | h
  · simp [h]
  · rw [if_neg (by omega), List.getElem?_eq_none (by omega)]
set_option maxHeartbeats 1000000 in
theorem arity_any {n b : Nat} {w : World} {L : List Sym} (h : Sg n w b L) (x : Int) : Calls Tryz.prog 90 #[.pointer (some ⟨b, 0, none⟩), .int .i64 x] w fun e w' => e = .returned (.int .i64 ((arN L x : Nat) : Int)) ∧ Same0 w w' := by
  obtain ⟨⟨sv, mr, h1, _⟩, ha⟩ := h
  by_cases hx : x < 0 ∨ (L.length : Int) ≤ x
  · have e1 := ar_no hx
    have H1 : Hid (arN L x = 0) := e1
    clear e1
    have c := at_no h1 x hx
    go_enter Tryz.func90, Tryz.ntmps90
    go_wp2_with (first | (go_at_call 57; refine c.mono ?_; rintro e w' ⟨rfl, hk⟩))
    go_ret
    exact ⟨by rw [H1.out]; rfl, hk.alloc _⟩
  · obtain ⟨i, rfl⟩ : ∃ i : Nat, x = (i : Int) := ⟨x.toNat, by omega⟩
    have hi : i < L.length := by omega
    have H1 : Hid (((arN L (i : Int) : Nat) : Int) = L[i].ar) := ar_of ha hi
    have c := at_yes h1 i hi
    go_enter Tryz.func90, Tryz.ntmps90
    go_wp2_with (first | (go_at_call 57; refine c.mono ?_; rintro e w' ⟨rfl, hk⟩))
    go_ret
    exact ⟨by rw [H1.out]; rfl, hk.alloc _⟩
set_option maxHeartbeats 1000000 in
theorem isVariable_any (x : Int) (w : World) : Calls Tryz.prog 89 #[.int .i64 x] w fun e w' => e = .returned (.bool (isV x)) ∧ w' = w := by
  by_cases h1 : -99 ≤ x
  · by_cases h2 : x ≤ -1
    · have H : Hid (isV x = true) := by show _ = _; simp [isV]; omega
      go_enter Tryz.func89, Tryz.ntmps89
      go_wp2
      go_ret
      exact ⟨by rw [H.out]; rfl, rfl⟩
    · have H : Hid (isV x = false) := by show _ = _; simp [isV]; omega
      go_enter Tryz.func89, Tryz.ntmps89
      go_wp2
      go_ret
      exact ⟨by rw [H.out]; rfl, rfl⟩
  · have H : Hid (isV x = false) := by show _ = _; simp [isV]; omega
    go_enter Tryz.func89, Tryz.ntmps89
    go_wp2
    go_ret
    exact ⟨by rw [H.out]; rfl, rfl⟩
def numE (L : List Sym) (x : Int) : Int := if (L.length : Int) ≤ x then 21 else if x < -99 then 22 else 0
theorem sg_len {n b : Nat} {w : World} {L : List Sym} (h : Sg n w b L) : Calls Tryz.prog 88 #[.pointer (some ⟨b, 0, none⟩)] w fun e w' => e = .returned (.int .i64 (L.length : Int)) ∧ w' = w := by
  obtain ⟨⟨sv, mr, h1, _⟩, ha⟩ := h
  exact len_any h1
set_option maxHeartbeats 1000000 in
theorem checkNumber_any {n b : Nat} {w : World} {L : List Sym} (h : Sg n w b L) (x : Int) : Calls Tryz.prog 61 #[.pointer (some ⟨b, 0, none⟩), .int .i64 x] w fun e w' => e = .returned (.int .i64 (numE L x)) ∧ w' = w := by
  have c := sg_len h
  by_cases h1 : (L.length : Int) ≤ x
  · have H : Hid (numE L x = 21) := by show _ = _; simp [numE, h1]
    go_enter Tryz.func61, Tryz.ntmps61
    go_wp2_with (first | (go_at_call 88; refine c.mono ?_; rintro e w' ⟨rfl, rfl⟩))
    all_goals
      go_ret
      exact ⟨by rw [H.out]; rfl, rfl⟩
  · by_cases h2 : x < 0
    · by_cases h3 : x < -99
      · have H : Hid (numE L x = 22) := by show _ = _; simp [numE, h1, h3]
        have h4 : isV x = false := by simp [isV]; omega
        go_enter Tryz.func61, Tryz.ntmps61
        go_wp2_with (first | (go_at_call 88; refine c.mono ?_; rintro e w' ⟨rfl, rfl⟩) | (go_at_call 89; refine (isVariable_any _ _).mono ?_; rintro e w' ⟨rfl, rfl⟩))
        all_goals
          go_ret
          exact ⟨by rw [H.out]; rfl, rfl⟩
      · have H : Hid (numE L x = 0) := by show _ = _; simp [numE, h1, h3]
        have h4 : isV x = true := by simp [isV]; omega
        go_enter Tryz.func61, Tryz.ntmps61
        go_wp2_with (first | (go_at_call 88; refine c.mono ?_; rintro e w' ⟨rfl, rfl⟩) | (go_at_call 89; refine (isVariable_any _ _).mono ?_; rintro e w' ⟨rfl, rfl⟩))
        all_goals
          go_ret
          exact ⟨by rw [H.out]; rfl, rfl⟩
    · have H : Hid (numE L x = 0) := by show _ = _; simp [numE, h1]; omega
      go_enter Tryz.func61, Tryz.ntmps61
      go_wp2_with (first | (go_at_call 88; refine c.mono ?_; rintro e w' ⟨rfl, rfl⟩))
      all_goals
        go_ret
        exact ⟨by rw [H.out]; rfl, rfl⟩
end Go.Proofs.YtbjfpfnfbgncnaaGreatDoor
/- The walks of the reader's smallest parts: the next kind, giving up, taking a token, skipping one. -/
namespace Go.Proofs.YtbjfpfnfbgncnaaGreatDoor
open Go.RowKit
set_option linter.unusedVariables false
set_option maxRecDepth 100000
set_option maxHeartbeats 1000000 in
theorem giveUp_any (c p : Int) (w : World) : Calls Tryz.prog 49 #[.int .i64 c, .int .i64 p] w fun e w' =>
    e = .panicked [{ v := .iface 83 (.pointer (some ⟨w.heap.size, 0, none⟩)), recovered := false }] ∧ w' = w.alloc (.cells #[.int .i64 c, .int .i64 p, .nilIface] 86) := by
  go_enter Tryz.func49, Tryz.ntmps49
  go_wp2
  exact ⟨rfl, rfl, rfl⟩
set_option maxHeartbeats 1000000 in
theorem next_any {w : World} {rb tb : Nat} {t : Tok} {r : List Tok} (h : RdAt w rb tb (t :: r)) : Calls Tryz.prog 87 #[.pointer (some ⟨rb, 0, none⟩)] w fun e w' =>
    e = .returned (.int .i64 (t.kind : Int)) ∧ w' = w := by
  obtain ⟨hne, off, cap, hb, hc, hm, ha⟩ := h
  have b0 := cellAt hb 0
  obtain ⟨h0, _, _⟩ := ha.head
  simp only [List.getElem?_toArray, List.getElem?_cons_zero] at b0
  clear hb ha
  go_enter Tryz.func87, Tryz.ntmps87
  go_wp2
  go_ret
  exact ⟨rfl, rfl⟩
set_option maxHeartbeats 1000000 in
theorem index_any {w : World} {ao : Option Addr} {xs : List Int} (h : IntsAt w ao xs) (x : Int) (cap : Nat) (hl : xs.length ≤ 100) : Calls Tryz.prog 105 #[.slice ao xs.length cap, .int .i64 x] w fun e w' =>
    (∃ i, e = .returned (.int .i64 i) ∧ (0 ≤ i ↔ x ∈ xs)) ∧ w' = w := by
  go_enter Tryz.func105, Tryz.ntmps105
  go_wp2
  go_loop [8] (fun i => ∃ k : Nat, i = .int .i64 (k : Int) ∧ k ≤ xs.length ∧ x ∉ xs.take k) (fun i => xs.length - (intOf i).toNat)
  case atStart => exact ⟨0, rfl, Nat.zero_le _, by simp⟩
  case round =>
    obtain ⟨k, rfl, hk, hn⟩ := hrel
    have HN : Hid (x ∉ xs.take k) := hn
    clear hn
    by_cases hlt : k < xs.length
    · obtain ⟨b, off, rfl, hb, hc⟩ := h.get hlt
      have d1 : ((k : Int) < (xs.length : Int)) := by omega
      have hs : xs.take (k + 1) = xs.take k ++ [xs[k]] := by simp
      have HS : Hid (xs.take (k + 1) = xs.take k ++ [xs[k]]) := hs
      clear hs
      by_cases hx : x = xs[k]
      · have HM : Hid (x ∈ xs) := hx ▸ List.getElem_mem hlt
        obtain ⟨y, hy⟩ : ∃ y, y = xs[k] := ⟨_, rfl⟩
        rw [← hy] at hc hx
        subst hx
        clear hy HS
        go_wp2
        go_ret
        exact ⟨⟨_, rfl, fun _ => HM.out, fun _ => Int.natCast_nonneg _⟩, rfl⟩
      · have HX : Hid (x ≠ xs[k]) := hx
        obtain ⟨y, hy⟩ : ∃ y, y = xs[k] := ⟨_, rfl⟩
        have HY : Hid (y = xs[k]) := hy
        rw [← hy] at hc hx
        clear hy
        have hxy : (x == y) = false := by simpa using hx
        go_wp2
        go_round
        case rel => exact ⟨k + 1, by go_num, by omega, by rw [HS.out]; simp only [List.mem_append, List.mem_singleton, not_or]; exact ⟨HN.out, HX.out⟩⟩
        case measure => simp [intOf]; omega
    · have d1 : ¬ ((k : Int) < (xs.length : Int)) := by omega
      have hx : x ∉ xs := by have := HN.out; rwa [List.take_of_length_le (by omega)] at this
      have HX : Hid (x ∉ xs) := hx
      clear hx
      go_wp2
      go_ret
      exact ⟨⟨_, rfl, fun f => by omega, fun f => absurd f HX.out⟩, rfl⟩
set_option maxHeartbeats 1000000 in
theorem contains_any {w : World} {ao : Option Addr} {xs : List Int} (h : IntsAt w ao xs) (x : Int) (cap : Nat) (hl : xs.length ≤ 100) : Calls Tryz.prog 86 #[.slice ao xs.length cap, .int .i64 x] w fun e w' =>
    e = .returned (.bool (decide (x ∈ xs))) ∧ w' = w := by
  have c := index_any h x cap hl
  go_enter Tryz.func86, Tryz.ntmps86
  go_wp2_with (first | (go_at_call 105; refine c.mono ?_; rintro e w' ⟨⟨i, rfl, hi⟩, rfl⟩; have HI : Hid (0 ≤ i ↔ x ∈ xs) := hi; clear hi))
  go_ret
  exact ⟨ret_bool (by simp only [← HI.out]), rfl⟩
/-- The next token taken, if it is of one of those kinds. -/
def takeF (ks : List Int) : List Tok → Except Nat (Tok × List Tok)
  | [] => .error 0
  | t :: r => if (t.kind : Int) ∈ ks then .ok (t, r) else .error t.at'
def aggT (t : Tok) : Value := .agg #[.int .i64 (t.kind : Int), .int .i64 (t.at' : Int), .string (txt t.text)]
theorem rd_step {w : World} {rb tb off' cp' : Nat} {u : Value} {r : List Tok} (hb : w.heap[rb]? = some (.cells #[u] 111 (0, 0))) (hne : tb ≠ rb) (ha : TokAt w tb off' r) (hc : r.length ≤ cp') (hm : cp' ≤ maxLen) :
    (∀ A B, RdAt (((w.setCell ⟨rb, 0, none⟩ (.slice (some ⟨tb, off', none⟩) r.length cp')).alloc A).alloc B) rb tb r) ∧ ∀ A B, Kept (fun i => i = rb) w (((w.setCell ⟨rb, 0, none⟩ (.slice (some ⟨tb, off', none⟩) r.length cp')).alloc A).alloc B) := by
  have hk1 : Kept (fun i => i = rb) w (w.setCell ⟨rb, 0, none⟩ (.slice (some ⟨tb, off', none⟩) r.length cp')) := Kept.setCell (p := ⟨rb, 0, none⟩) (Kept.refl (fun i => i = rb) w) (fun _ => rfl) _
  have h1 : RdAt (w.setCell ⟨rb, 0, none⟩ (.slice (some ⟨tb, off', none⟩) r.length cp')) rb tb r := ⟨hne, off', cp', by rw [setAt hb]; simp, hc, hm, ha.kept hk1 hne⟩
  exact ⟨fun A B => h1.same (Kept.alloc (Kept.alloc (Kept.refl _ _) _) _), fun A B => Kept.alloc (Kept.alloc hk1 _) _⟩
set_option maxHeartbeats 2000000 in
theorem take_ok {w : World} {rb tb : Nat} {t : Tok} {r : List Tok} (h : RdAt w rb tb (t :: r)) {ao : Option Addr} {ks : List Int} (hk : IntsAt w ao ks) (cap : Nat) (hl : ks.length ≤ 100) (ht : (t.kind : Int) ∈ ks) :
    Calls Tryz.prog 52 #[.pointer (some ⟨rb, 0, none⟩), .slice ao ks.length cap] w fun e w' => e = .returned (aggT t) ∧ RdAt w' rb tb r ∧ Kept (fun i => i = rb) w w' := by
  obtain ⟨hne, off, cp, hb, hc, hm, ha⟩ := h
  have b0 := cellAt hb 0
  have f0 := frozenAt hb 0
  obtain ⟨h0, h1, h2⟩ := ha.head
  have htb := ha.1
  have hrb := lt_of_at hb
  simp only [List.getElem?_toArray, List.getElem?_cons_zero] at b0
  have HB : Hid (w.heap[rb]? = _) := hb
  have HA : Hid (TokAt w tb off (t :: r)) := ha
  clear hb ha
  go_enter Tryz.func52, Tryz.ntmps52
  have hd : decide ((t.kind : Int) ∈ ks) = true := decide_eq_true ht
  go_wp2_with (first | (go_at_call 86; refine (contains_any (hk.same (Kept.alloc (Kept.alloc (Kept.refl _ w) _) _)) _ cap hl).mono ?_; rintro e w' ⟨rfl, rfl⟩))
  rotate_left
  · obtain ⟨a, b⟩ := rd_step (off' := off + 3) (cp' := cp - 1) HB.out hne HA.out.tail (by simp at hc; omega) (Nat.le_trans (Nat.sub_le _ _) hm)
    exact bodyPost_ret (v := aggT t) (by simp [results, Tryz.results52, go_sem, aggT]) rfl ⟨rfl, a _ _, b _ _⟩
  · have hr : r = [] := List.eq_nil_of_length_eq_zero (by simp at hc; omega)
    obtain ⟨a, b⟩ := rd_step (r := r) (off' := off) (cp' := 0) HB.out hne ⟨HA.out.1, fun i hi => by simp [hr] at hi⟩ (by simp [hr]) (Nat.zero_le _)
    exact bodyPost_ret (v := aggT t) (by simp [results, Tryz.results52, go_sem, aggT]) rfl ⟨rfl, a _ _, b _ _⟩
theorem alloc_at1 (w : World) (A B : Obj) : ((w.alloc A).alloc B).heap[w.heap.size + 1]? = some B := by
  have h := heap_alloc_new (w.alloc A) B
  rwa [World.size_alloc] at h
theorem alloc_at2 (w : World) (A B C : Obj) : (((w.alloc A).alloc B).alloc C).heap[w.heap.size + 1 + 1]? = some C := by
  have h := heap_alloc_new ((w.alloc A).alloc B) C
  rwa [World.size_alloc, World.size_alloc] at h
set_option maxHeartbeats 2000000 in
theorem take_bad {w : World} {rb tb : Nat} {t : Tok} {r : List Tok} (h : RdAt w rb tb (t :: r)) {ao : Option Addr} {ks : List Int} (hk : IntsAt w ao ks) (cap : Nat) (hl : ks.length ≤ 100) (ht : ¬ (t.kind : Int) ∈ ks) :
    Calls Tryz.prog 52 #[.pointer (some ⟨rb, 0, none⟩), .slice ao ks.length cap] w fun e w' => GaveUp w.heap.size w' e 41 t.at' ∧ Same0 w w' := by
  obtain ⟨hne, off, cp, hb, hc, hm, ha⟩ := h
  have b0 := cellAt hb 0
  obtain ⟨h0, h1, h2⟩ := ha.head
  have htb := ha.1
  have hrb := lt_of_at hb
  simp only [List.getElem?_toArray, List.getElem?_cons_zero] at b0
  clear hb ha
  go_enter Tryz.func52, Tryz.ntmps52
  have hd : decide ((t.kind : Int) ∈ ks) = false := decide_eq_false ht
  go_wp2_with (first | (go_at_call 86; refine (contains_any (hk.same (Kept.alloc (Kept.alloc (Kept.refl _ w) _) _)) _ cap hl).mono ?_; rintro e w' ⟨rfl, rfl⟩) | (go_at_call 49; refine (giveUp_any _ _ _).mono ?_; rintro e w' ⟨rfl, rfl⟩))
  exact ⟨rfl, ⟨_, rfl, by go_size, alloc_at2 _ _ _ _⟩, Kept.alloc (Kept.alloc (Kept.alloc (Kept.refl _ w) _) _) _⟩
end Go.Proofs.YtbjfpfnfbgncnaaGreatDoor
