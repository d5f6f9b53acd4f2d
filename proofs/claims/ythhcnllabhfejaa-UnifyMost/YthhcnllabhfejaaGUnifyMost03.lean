import Derived.Test.YthhcnllabhfejaaGUnifyMost01
import Derived.Test.YthhcnllabhfejaaGUnifyMost02
import Derived.Handy
import Derived.OwnWalk
import Derived.Laws.CopyOwn
/- Lists of numbers that lie in memory; a signature, the program's and the document's, of the same symbols; the walks of the smallest functions of package term. -/
namespace Go.Proofs.Ythhcnllabhfejaa
set_option maxRecDepth 100000
open Go.RowKit
attribute [local go_sem ↓] Go.wp_at_zero Go.wp_at_succ
/-- Numbers that lie in memory. -/
def IntsAt (w : World) (ao : Option Addr) (xs : List Int) : Prop :=
  xs = [] ∨ ∃ b off, ao = some ⟨b, off, none⟩ ∧ b < w.heap.size ∧ ∀ i (h : i < xs.length), w.cell? ⟨b, off + i, none⟩ = some (.int .i64 xs[i])
theorem IntsAt.kept {w w' : World} {S : Nat → Prop} {ao : Option Addr} {xs : List Int} (h : IntsAt w ao xs) (hk : Kept S w w') (hs : ∀ a, ao = some a → ¬ S a.block) : IntsAt w' ao xs := by
  refine h.imp id ?_
  rintro ⟨b, off, rfl, hlt, hc⟩
  exact ⟨b, off, rfl, Nat.lt_of_lt_of_le hlt hk.size, fun i hi => (hk.cell (p := ⟨b, off + i, none⟩) hlt (hs ⟨b, off, none⟩ rfl)).trans (hc i hi)⟩
theorem IntsAt.same {w w' : World} {ao : Option Addr} {xs : List Int} (h : IntsAt w ao xs) (hk : Same0 w w') : IntsAt w' ao xs := h.kept hk (fun _ _ f => f)
theorem IntsAt.get {w : World} {ao : Option Addr} {xs : List Int} (h : IntsAt w ao xs) {i : Nat} (hi : i < xs.length) : ∃ b off, ao = some ⟨b, off, none⟩ ∧ b < w.heap.size ∧ w.cell? ⟨b, off + i, none⟩ = some (.int .i64 xs[i]) := by
  rcases h with rfl | ⟨b, off, e, hlt, hc⟩
  · simp at hi
  · exact ⟨b, off, e, hlt, hc i hi⟩
/-- The arities are what Add takes. -/
def Ars (L : List Sym) : Prop := ∀ x ∈ L, 0 ≤ x.ar ∧ x.ar ≤ 6
theorem arN_le {L : List Sym} (h : Ars L) (n : Int) : arN L n ≤ 6 := by
  unfold arN
  split
  · omega
  · split
    · rename_i x hx
      have := h x (List.mem_of_getElem? hx)
      omega
    · omega
/-- A signature: all its blocks lie below n. -/
def Sg (n : Nat) (w : World) (b : Nat) (L : List Sym) : Prop := (∃ sv mr, SigAt w b L sv mr ∧ ∀ k, Foot b sv mr k → k < n) ∧ Ars L
theorem Sg.kept {n b : Nat} {w w' : World} {L : List Sym} {S : Nat → Prop} (h : Sg n w b L) (hk : Kept S w w') (hs : ∀ k, k < n → ¬ S k) : Sg n w' b L := by
  obtain ⟨⟨sv, mr, h1, h2⟩, h3⟩ := h
  exact ⟨⟨sv, mr, h1.kept hk (fun k e => hs k (h2 k e)), h2⟩, h3⟩
theorem Sg.same {n b : Nat} {w w' : World} {L : List Sym} (h : Sg n w b L) (hk : Same0 w w') : Sg n w' b L := h.kept hk (fun _ _ f => f)
/-- The document's list of the symbols. -/
def Rl (n : Nat) (w : World) (rv : Value) (L : List Sym) : Prop := w.ownsRow 0 48 3 rv L.length (symCells L) ∧ (∀ k, rv.ownBlock = some k → k < n) ∧ Ars L ∧ L.length ≤ 64
theorem Rl.kept {n : Nat} {rv : Value} {w w' : World} {L : List Sym} {S : Nat → Prop} (h : Rl n w rv L) (hk : Kept S w w') (hs : ∀ k, k < n → ¬ S k) : Rl n w' rv L :=
  ⟨hk.row h.1 (fun k e => hs k (h.2.1 k e)), h.2⟩
theorem Rl.same {n : Nat} {rv : Value} {w w' : World} {L : List Sym} (h : Rl n w rv L) (hk : Same0 w w') : Rl n w' rv L := h.kept hk (fun _ _ f => f)
theorem Rl.drewN {n : Nat} {rv : Value} {w : World} {L : List Sym} (h : Rl n w rv L) (m : Nat) : Rl n (w.drewN m) rv L := h.same ((Kept.refl _ w).drewN m)
theorem ar_of {L : List Sym} (h : Ars L) {i : Nat} (hi : i < L.length) : ((arN L (i : Int) : Nat) : Int) = L[i].ar := by
  have := (h L[i] (List.getElem_mem hi)).1
  rw [arN, if_neg (by omega)]; simp [hi]; omega
theorem ar_no {L : List Sym} {n : Int} (hn : n < 0 ∨ (L.length : Int) ≤ n) : arN L n = 0 := by
  unfold arN
  rcases hn with h | h
  · simp [h]
  · rw [if_neg (by omega), List.getElem?_eq_none (by omega)]
set_option maxHeartbeats 1000000 in
theorem arity_any {n b : Nat} {w : World} {L : List Sym} (h : Sg n w b L) (x : Int) : Calls Try.prog 68 #[.pointer (some ⟨b, 0, none⟩), .int .i64 x] w fun e w' => e = .returned (.int .i64 ((arN L x : Nat) : Int)) ∧ Same0 w w' := by
  obtain ⟨⟨sv, mr, h1, _⟩, ha⟩ := h
  by_cases hx : x < 0 ∨ (L.length : Int) ≤ x
  · have e1 := ar_no hx
    have H1 : Hid (arN L x = 0) := e1
    clear e1
    have c := at_no h1 x hx
    go_enter Try.func68, Try.ntmps68
    go_wp2_with (first | (go_at_call 62; refine c.mono ?_; rintro e w' ⟨rfl, hk⟩))
    go_ret
    exact ⟨by rw [H1.out]; rfl, hk.alloc _⟩
  · obtain ⟨i, rfl⟩ : ∃ i : Nat, x = (i : Int) := ⟨x.toNat, by omega⟩
    have hi : i < L.length := by omega
    have H1 : Hid (((arN L (i : Int) : Nat) : Int) = L[i].ar) := ar_of ha hi
    have c := at_yes h1 i hi
    go_enter Try.func68, Try.ntmps68
    go_wp2_with (first | (go_at_call 62; refine c.mono ?_; rintro e w' ⟨rfl, hk⟩))
    go_ret
    exact ⟨by rw [H1.out]; rfl, hk.alloc _⟩
set_option maxHeartbeats 1000000 in
theorem isVariable_any (x : Int) (w : World) : Calls Try.prog 67 #[.int .i64 x] w fun e w' => e = .returned (.bool (isV x)) ∧ w' = w := by
  by_cases h1 : -99 ≤ x
  · by_cases h2 : x ≤ -1
    · have H : Hid (isV x = true) := by show _ = _; simp [isV]; omega
      go_enter Try.func67, Try.ntmps67
      go_wp2
      go_ret
      exact ⟨by rw [H.out]; rfl, rfl⟩
    · have H : Hid (isV x = false) := by show _ = _; simp [isV]; omega
      go_enter Try.func67, Try.ntmps67
      go_wp2
      go_ret
      exact ⟨by rw [H.out]; rfl, rfl⟩
  · have H : Hid (isV x = false) := by show _ = _; simp [isV]; omega
    go_enter Try.func67, Try.ntmps67
    go_wp2
    go_ret
    exact ⟨by rw [H.out]; rfl, rfl⟩
def numE (L : List Sym) (x : Int) : Int := if (L.length : Int) ≤ x then 21 else if x < -99 then 22 else 0
theorem sg_len {n b : Nat} {w : World} {L : List Sym} (h : Sg n w b L) : Calls Try.prog 52 #[.pointer (some ⟨b, 0, none⟩)] w fun e w' => e = .returned (.int .i64 (L.length : Int)) ∧ w' = w := by
  obtain ⟨⟨sv, mr, h1, _⟩, ha⟩ := h
  exact len_any h1
set_option maxHeartbeats 1000000 in
theorem checkNumber_any {n b : Nat} {w : World} {L : List Sym} (h : Sg n w b L) (x : Int) : Calls Try.prog 60 #[.pointer (some ⟨b, 0, none⟩), .int .i64 x] w fun e w' => e = .returned (.int .i64 (numE L x)) ∧ w' = w := by
  have c := sg_len h
  by_cases h1 : (L.length : Int) ≤ x
  · have H : Hid (numE L x = 21) := by show _ = _; simp [numE, h1]
    go_enter Try.func60, Try.ntmps60
    go_wp2_with (first | (go_at_call 52; refine c.mono ?_; rintro e w' ⟨rfl, rfl⟩))
    all_goals
      go_ret
      exact ⟨by rw [H.out]; rfl, rfl⟩
  · by_cases h2 : x < 0
    · by_cases h3 : x < -99
      · have H : Hid (numE L x = 22) := by show _ = _; simp [numE, h1, h3]
        have h4 : isV x = false := by simp [isV]; omega
        go_enter Try.func60, Try.ntmps60
        go_wp2_with (first | (go_at_call 52; refine c.mono ?_; rintro e w' ⟨rfl, rfl⟩) | (go_at_call 67; refine (isVariable_any _ _).mono ?_; rintro e w' ⟨rfl, rfl⟩))
        all_goals
          go_ret
          exact ⟨by rw [H.out]; rfl, rfl⟩
      · have H : Hid (numE L x = 0) := by show _ = _; simp [numE, h1, h3]
        have h4 : isV x = true := by simp [isV]; omega
        go_enter Try.func60, Try.ntmps60
        go_wp2_with (first | (go_at_call 52; refine c.mono ?_; rintro e w' ⟨rfl, rfl⟩) | (go_at_call 67; refine (isVariable_any _ _).mono ?_; rintro e w' ⟨rfl, rfl⟩))
        all_goals
          go_ret
          exact ⟨by rw [H.out]; rfl, rfl⟩
    · have H : Hid (numE L x = 0) := by show _ = _; simp [numE, h1]; omega
      go_enter Try.func60, Try.ntmps60
      go_wp2_with (first | (go_at_call 52; refine c.mono ?_; rintro e w' ⟨rfl, rfl⟩))
      all_goals
        go_ret
        exact ⟨by rw [H.out]; rfl, rfl⟩
end Go.Proofs.Ythhcnllabhfejaa
/- The walks of end, Check, checkPlace of package term. -/
namespace Go.Proofs.Ythhcnllabhfejaa
set_option maxRecDepth 100000
open Go.RowKit
attribute [local go_sem ↓] Go.wp_at_zero Go.wp_at_succ
def endI (L : List Sym) (t : List Int) (p : Nat) : Int := match endO L t p with | some e => (e : Int) | none => -1
theorem endO_round {L : List Sym} {t : List Int} {p0 p k : Nat} (h : endO L t p0 = (scan L (k + 1) (t.drop p)).map (p + ·)) (hp : p < t.length) : endO L t p0 = (scan L (k + arN L t[p]) (t.drop (p + 1))).map (p + 1 + ·) := by
  rw [h, List.drop_eq_getElem_cons hp, scan, Option.map_map]
  congr 1
  funext x
  simp; omega
theorem endO_stop {L : List Sym} {t : List Int} {p0 p : Nat} (h : endO L t p0 = (scan L 0 (t.drop p)).map (p + ·)) : endI L t p0 = (p : Int) := by
  simp [endI, h, scan_zero]
theorem endO_none {L : List Sym} {t : List Int} {p0 p k : Nat} (h : endO L t p0 = (scan L (k + 1) (t.drop p)).map (p + ·)) (hp : t.length ≤ p) : endI L t p0 = -1 := by
  rw [List.drop_eq_nil_of_le hp] at h
  simp [endI, h, scan]
set_option maxHeartbeats 2000000 in
theorem end_any {n b : Nat} {w : World} {L : List Sym} (h : Sg n w b L) {ao : Option Addr} {cap : Nat} {t : List Int} (ht : IntsAt w ao t) (hm : t.length ≤ 2000) (p0 : Nat) (hp0 : p0 ≤ t.length) :
    Calls Try.prog 61 #[.pointer (some ⟨b, 0, none⟩), .slice ao t.length cap, .int .i64 (p0 : Int)] w fun e w' => e = .returned (.int .i64 (endI L t p0)) ∧ Same0 w w' := by
  have ha := h.2
  go_enter Try.func61, Try.ntmps61
  go_wp2
  go_loopw [2, 7] (fun at' la wr => ∃ p k : Nat, p0 ≤ p ∧ p ≤ t.length ∧ at' = .int .i64 (p : Int) ∧ la = .int .i64 ((k + 1 : Nat) : Int) ∧ k ≤ 6 * (p - p0) ∧ endO L t p0 = (scan L (k + 1) (t.drop p)).map (p + ·) ∧ Same0 w wr) (fun at' _ _ => t.length - (intOf at').toNat)
  case atStart => exact ⟨p0, 0, Nat.le_refl _, hp0, rfl, rfl, by omega, rfl, Kept.refl _ _⟩
  case round =>
    obtain ⟨p, k, h1, h2, rfl, rfl, h3, h4, hk⟩ := hrel
    by_cases hlt : p < t.length
    · obtain ⟨tb, off, rfl, htb, hc⟩ := (ht.same hk).get hlt
      have c := arity_any (h.same hk) t[p]
      have hle := arN_le ha t[p]
      have h5 := endO_round h4 hlt
      have H5 : Hid (endO L t p0 = (scan L (k + arN L t[p]) (t.drop (p + 1))).map (p + 1 + ·)) := h5
      clear h5 h4
      have i1 : (0 : Int) ≤ (p : Int) := by omega
      have i2 : (p : Int) < (t.length : Int) := by omega
      generalize arN L t[p] = a at *
      by_cases hz : k + a = 0
      · have z1 : ((k : Int) + 1 + ((a : Int) - 1) == 0) = true := by simp; omega
        have H6 : Hid (endI L t p0 = (p : Int) + 1) := by
          have H5 := H5.out
          rw [hz] at H5
          have := endO_stop H5
          show _ = _
          rw [this]; simp
        go_wp2_with (first | (go_at_call 68; refine c.mono ?_; rintro e w' ⟨rfl, hk1⟩))
        go_ret
        exact ⟨ret_int H6.out.symm, hk.trans' hk1⟩
      · have z1 : ((k : Int) + 1 + ((a : Int) - 1) == 0) = false := by simp; omega
        go_wp2_with (first | (go_at_call 68; refine c.mono ?_; rintro e w' ⟨rfl, hk1⟩))
        refine ⟨⟨p + 1, k + a - 1, by omega, by omega, by go_num, by congr 1; omega, by omega, ?_, hk.trans' hk1⟩, by simp [intOf]; omega⟩
        rw [show k + a - 1 + 1 = k + a by omega]
        exact H5.out
    · have H6 : Hid (endI L t p0 = -1) := endO_none h4 (by omega)
      go_wp2
      go_ret
      exact ⟨ret_int H6.out.symm, hk⟩
theorem badE_step {L : List Sym} {t : List Int} {p : Nat} (hp : p < t.length) (h : badE L (t.take p) = 0) : (numE L t[p] ≠ 0 → badE L t = numE L t[p]) ∧ (numE L t[p] = 0 → badE L (t.take (p + 1)) = 0) := by
  have e : t = t.take p ++ (t[p] :: t.drop (p + 1)) := by rw [← List.drop_eq_getElem_cons hp, List.take_append_drop]
  constructor
  · intro hn
    have h2 := badE_append L (t.take p) (t[p] :: t.drop (p + 1)) h
    rw [← e] at h2
    rw [h2, badE]
    unfold numE at hn ⊢
    by_cases q1 : (L.length : Int) ≤ t[p]
    · rw [if_pos q1, if_pos q1]
    · rw [if_neg q1, if_neg q1]
      rw [if_neg q1] at hn
      by_cases q2 : t[p] < -99
      · rw [if_pos q2, if_pos q2]
      · rw [if_neg q2] at hn; exact absurd rfl hn
  · intro hn
    rw [List.take_add_one, badE_append _ _ _ h, List.getElem?_eq_getElem hp]
    simpa [badE, numE] using hn
theorem checkE_long {L : List Sym} {t : List Int} (h : 2000 < t.length) : checkE L t = 20 := by simp [checkE, h]
theorem checkE_bad {L : List Sym} {t : List Int} (h : ¬ 2000 < t.length) (hb : badE L t ≠ 0) : checkE L t = badE L t := by simp [checkE, h, hb]
theorem checkE_end {L : List Sym} {t : List Int} (h : ¬ 2000 < t.length) (hb : badE L t = 0) : checkE L t = if endI L t 0 = (t.length : Int) then 0 else 23 := by
  have e : endI L t 0 = (t.length : Int) ↔ need L 1 t = some 0 := by
    constructor
    · intro h
      unfold endI endO at h
      cases hs : scan L 1 t with
      | none => simp [hs] at h
      | some m =>
        simp [hs] at h
        obtain rfl : m = t.length := by omega
        have := (scan_need hs).2
        simpa using this
    · intro h
      have := need_scan (b := []) h
      rw [List.append_nil] at this
      simp [endI, endO, this]
  simp only [checkE, h, hb, if_false, ne_eq, not_true, e]
set_option maxHeartbeats 2000000 in
theorem check_any {n b : Nat} {w : World} {L : List Sym} (h : Sg n w b L) {ao : Option Addr} {cap : Nat} {t : List Int} (ht : IntsAt w ao t) (hm : t.length ≤ maxLen) :
    Calls Try.prog 42 #[.pointer (some ⟨b, 0, none⟩), .slice ao t.length cap] w fun e w' => e = .returned (.int .i64 (checkE L t)) ∧ Same0 w w' := by
  unfold maxLen at hm
  by_cases hl : 2000 < t.length
  · have H : Hid (checkE L t = 20) := checkE_long hl
    go_enter Try.func42, Try.ntmps42
    go_wp2
    go_ret
    exact ⟨ret_int H.out.symm, Kept.refl _ _⟩
  · have hl' : t.length ≤ 2000 := by omega
    go_enter Try.func42, Try.ntmps42
    go_wp2
    go_loop [15] (fun i => ∃ p : Nat, p ≤ t.length ∧ i = .int .i64 (p : Int) ∧ badE L (t.take p) = 0) (fun i => t.length - (intOf i).toNat)
    case atStart => exact ⟨0, Nat.zero_le _, rfl, by simp [badE]⟩
    case round =>
      obtain ⟨p, h1, rfl, h2⟩ := hrel
      by_cases hlt : p < t.length
      · obtain ⟨tb, off, rfl, htb, hc⟩ := ht.get hlt
        have i1 : (0 : Int) ≤ (p : Int) := by omega
        have i2 : (p : Int) < (t.length : Int) := by omega
        have c := checkNumber_any h t[p]
        obtain ⟨s1, s2⟩ := badE_step hlt h2
        by_cases hz : numE L t[p] = 0
        · have S2 : Hid (badE L (t.take (p + 1)) = 0) := s2 hz
          rw [hz] at c
          clear s1 s2 h2
          go_wp2_with (first | (go_at_call 60; refine c.mono ?_; rintro e w' ⟨rfl, rfl⟩))
          exact ⟨⟨p + 1, by omega, by go_num, S2.out⟩, by simp [intOf]; omega⟩
        · have hb := s1 hz
          have H : Hid (checkE L t = numE L t[p]) := by show _ = _; rw [checkE_bad hl (by rw [hb]; exact hz), hb]
          have hz' : (numE L t[p] == 0) = false := by simpa using hz
          clear s1 s2 h2 hb
          go_wp2_with (first | (go_at_call 60; refine c.mono ?_; rintro e w' ⟨rfl, rfl⟩))
          go_ret
          exact ⟨ret_int H.out.symm, Kept.refl _ _⟩
      · obtain rfl : p = t.length := by omega
        rw [List.take_length] at h2
        have c := end_any (cap := cap) h ht hl' 0 (Nat.zero_le _)
        have he := checkE_end hl h2
        by_cases hz : endI L t 0 = (t.length : Int)
        · have H : Hid (checkE L t = 0) := by show _ = _; rw [he, if_pos hz]
          rw [hz] at c
          clear he
          go_wp2_with (first | (go_at_call 61; refine c.mono ?_; rintro e w' ⟨rfl, hk1⟩))
          all_goals
            go_ret
            exact ⟨ret_int H.out.symm, hk1⟩
        · have H : Hid (checkE L t = 23) := by show _ = _; rw [he, if_neg hz]
          have hz' : (endI L t 0 == (t.length : Int)) = false := by simpa using hz
          clear he
          go_wp2_with (first | (go_at_call 61; refine c.mono ?_; rintro e w' ⟨rfl, hk1⟩))
          all_goals
            go_ret
            exact ⟨ret_int H.out.symm, hk1⟩
/-- Check of no signature. -/
theorem check_nil (ao : Option Addr) (len cap : Nat) (w : World) : Calls Try.prog 42 #[.pointer none, .slice ao len cap] w fun e w' => e = .returned (.int .i64 1) ∧ w' = w := by
  go_enter Try.func42, Try.ntmps42
  go_wp2
  go_ret
  exact ⟨rfl, rfl⟩
end Go.Proofs.Ythhcnllabhfejaa
/- The walks of End and Args of package term. -/
namespace Go.Proofs.Ythhcnllabhfejaa
set_option maxRecDepth 100000
open Go.RowKit
attribute [local go_sem ↓] Go.wp_at_zero Go.wp_at_succ
/-- The values of numbers. -/
def iv (xs : List Int) : List Value := xs.map (Value.int .i64)
theorem iv_length (xs : List Int) : (iv xs).length = xs.length := by simp [iv]
theorem iv_append (xs ys : List Int) : iv (xs ++ ys) = iv xs ++ iv ys := by simp [iv]
theorem iv_get {xs : List Int} {i : Nat} (h : i < xs.length) : (iv xs)[i]? = some (.int .i64 xs[i]) := by simp [iv, h]
theorem info_intT : (Try.prog.info? 3).map (fun i => (i.zero, i.size, i.bytes)) = some (some (.int .i64 0), 1, 8) := by kernel_rfl
/-- A row of numbers of the call's own. -/
abbrev Row (base : Nat) (w : World) (v : Value) (xs : List Int) : Prop := w.ownsRow base 3 1 v xs.length (iv xs)
def endA (L : List Sym) (t : List Int) (a : Int) : Int := if placeE L t a = 0 then (endN L t a.toNat : Int) else 0
def ofN (l : List Nat) : List Int := l.map (fun (x : Nat) => (x : Int))
def argsA (L : List Sym) (t : List Int) (a : Int) : List Int := if placeE L t a = 0 then ofN (argsN L t a.toNat) else []
theorem place_zero {L : List Sym} {t : List Int} {a : Int} (h : placeE L t a = 0) : ∃ p : Nat, a = (p : Int) ∧ p < t.length ∧ checkE L t = 0 ∧ t.length ≤ 2000 ∧ IsT L t := by
  unfold placeE at h
  by_cases hz : checkE L t = 0
  · simp only [hz, ne_eq, not_true, if_false] at h
    have : ¬ (a < 0 ∨ (t.length : Int) ≤ a) := by intro hh; simp [hh] at h
    obtain ⟨h1, _, h2⟩ := checkE_zero.1 hz
    exact ⟨a.toNat, by omega, by omega, hz, h1, h2⟩
  · simp [hz] at h
theorem endI_of {L : List Sym} {t : List Int} (h : IsT L t) {p : Nat} (hp : p < t.length) : endI L t p = (endN L t p : Int) := by
  rw [endI, endO_some h hp]
theorem take_set {α : Type} {l : List α} {k : Nat} (h : k < l.length) (u : α) : (l.set k u).take (k + 1) = l.take k ++ [u] := by
  rw [List.take_add_one, List.take_set_of_le (Nat.le_refl _)]
  simp [h]
theorem Same0.grown {w w1 w2 : World} (h : Same0 w w1) (hg : w1.grownBy w2 none) : Same0 w w2 := Kept.grown h hg (fun _ e _ => by cases e)
theorem Same0.own {w w1 : World} (h : Same0 w w1) {g o : Nat} (hg : w.heap.size ≤ g) (u : Value) : Same0 w (w1.setCell ⟨g, o, none⟩ u) := h.setCell (p := ⟨g, o, none⟩) (fun hlt => by simp at hlt; omega) u
theorem row_put {w : World} {base g cap n : Nat} {e : TypeId} {ys : List Value} (h : w.ownsRow base e 1 (.slice (some ⟨g, 0, none⟩) n cap) n ys) {k : Nat} (hk : k < n) : ∃ old, w.cell? ⟨g, k, none⟩ = some old ∧ w.frozen? ⟨g, k, none⟩ = false := by
  have hl : k < ys.length := by have := h.1; omega
  exact ⟨ys[k], (h.cellAt k (by omega)).trans (List.getElem?_eq_getElem hl), h.frozenAt k⟩
/-- At the head of a round of Args: k places are laid. -/
def Laid (base g A k : Nat) (xs : List Int) (w wr : World) : Prop := ∃ ys : List Value, wr.ownsRow base 3 1 (.slice (some ⟨g, 0, none⟩) A A) A ys ∧ ys.take k = iv xs ∧ Same0 w wr
theorem Laid.next {base g A k : Nat} {xs : List Int} {w wr : World} (h : Laid base g A k xs w wr) (hk : k < A) (hg : w.heap.size ≤ g) (x : Int) : Laid base g A (k + 1) (xs ++ [x]) w (wr.setCell ⟨g, k, none⟩ (.int .i64 x)) := by
  obtain ⟨ys, h1, h2, h3⟩ := h
  have hl : ys.length = A := by have := h1.1; omega
  refine ⟨ys.set k (.int .i64 x), (h1.stored k _).1, ?_, h3.own hg _⟩
  rw [take_set (by omega), h2, iv_append]; rfl
theorem Laid.same {base g A k : Nat} {xs : List Int} {w wr w1 : World} (h : Laid base g A k xs w wr) (hk : Same0 wr w1) : Laid base g A k xs w w1 := by
  obtain ⟨ys, h1, h2, h3⟩ := h
  exact ⟨ys, hk.row h1 (fun _ _ f => f), h2, h3.trans' hk⟩
theorem Laid.row {base g A : Nat} {xs : List Int} {w wr : World} (h : Laid base g A A xs w wr) : Row base wr (.slice (some ⟨g, 0, none⟩) A A) xs ∧ xs.length = A := by
  obtain ⟨ys, h1, h2, _⟩ := h
  have hl : ys.length = A := by have := h1.1; omega
  rw [List.take_of_length_le (by omega)] at h2
  subst h2
  have : xs.length = A := by rw [← hl, iv_length]
  unfold Row
  rw [this]
  exact ⟨h1, rfl⟩
end Go.Proofs.Ythhcnllabhfejaa
/- The walks of join, Sub and Put of package term. -/
namespace Go.Proofs.Ythhcnllabhfejaa
set_option maxRecDepth 100000
set_option linter.unusedVariables false
open Go.RowKit
attribute [local go_sem ↓] Go.wp_at_zero Go.wp_at_succ
/-- A part that is laid behind another. -/
structure Part where
  ao : Option Addr
  cap : Nat
  xs : List Int
def PartsAt (w : World) (pb : Nat) (ps : List Part) : Prop := pb < w.heap.size ∧ ∀ i (h : i < ps.length), w.cell? ⟨pb, i, none⟩ = some (.slice ps[i].ao ps[i].xs.length ps[i].cap) ∧ IntsAt w ps[i].ao ps[i].xs
def allOf (ps : List Part) : List Int := ps.flatMap Part.xs
theorem PartsAt.same {w w' : World} {pb : Nat} {ps : List Part} (h : PartsAt w pb ps) (hk : Same0 w w') : PartsAt w' pb ps :=
  ⟨Nat.lt_of_lt_of_le h.1 hk.size, fun i hi => ⟨(hk.cell (p := ⟨pb, i, none⟩) h.1 (fun f => f)).trans (h.2 i hi).1, (h.2 i hi).2.same hk⟩⟩
theorem allOf_snoc {ps : List Part} {k : Nat} (h : k < ps.length) : allOf (ps.take (k + 1)) = allOf (ps.take k) ++ ps[k].xs := by
  simp only [allOf]; rw [List.take_add_one, List.getElem?_eq_getElem h, List.flatMap_append]; simp
theorem allOf_le (ps : List Part) (k : Nat) : (allOf (ps.take k)).length ≤ (allOf ps).length := by
  have e : allOf ps = allOf (ps.take k) ++ allOf (ps.drop k) := by rw [allOf, allOf, allOf, ← List.flatMap_append, List.take_append_drop]
  rw [e]; simp
theorem Same0.of {w w' : World} (h : Below w.heap.size w w') : Same0 w w' := ⟨h.os, h.tape, h.output, h.size, fun k hk _ => h.block k hk⟩
/-- What lies in the row that join fills, when m numbers are laid. -/
def Joins (g N m : Nat) (xs : List Int) (w wr : World) : Prop := ∃ cur : List Value, wr.heap[g]? = some (.cells cur.toArray 3 (0, 0)) ∧ cur.length = N ∧ cur.take m = iv xs ∧ xs.length = m ∧ Same0 w wr
theorem Joins.start {g N : Nat} {v : Value} {ys : List Value} {w wr : World} (hv : v = .slice (some ⟨g, 0, none⟩) N N) (h : wr.ownsRow w.heap.size 3 1 v N ys) (hs : Same0 w wr) : Joins g N 0 [] w wr := by
  rcases h.2 with ⟨e, _⟩ | ⟨g', cap, cur, e, hb, hg, _, _, hsz, _⟩
  · rw [hv] at e; cases e
  · rw [hv] at e
    simp only [Value.slice.injEq, Option.some.injEq, Addr.mk.injEq, and_true, true_and] at e
    obtain ⟨rfl, rfl⟩ := e
    exact ⟨cur.toList, by simpa using hg, by simpa using hsz, by simp [iv], rfl, hs⟩
theorem splice_take {α : Type} (cur cs : List α) (m : Nat) (h : m + cs.length ≤ cur.length) : (splice cur m cs).take (m + cs.length) = cur.take m ++ cs := by
  unfold splice
  rw [← List.append_assoc, List.take_left' (by simp; omega)]
theorem Joins.next {g N m : Nat} {xs zs : List Int} {cur : List Value} {w w' : World} (h1 : cur.length = N) (h2 : cur.take m = iv xs) (h3 : xs.length = m) (hm : m + zs.length ≤ N)
    (hg : w'.heap[g]? = some (.cells (splice cur m (iv zs)).toArray 3 (0, 0))) (hb : Below w.heap.size w w') : Joins g N (m + zs.length) (xs ++ zs) w w' := by
  refine ⟨_, hg, ?_, ?_, by simp; omega, Same0.of hb⟩
  · rw [length_splice _ _ _ (by rw [iv_length]; omega)]; exact h1
  · have := splice_take cur (iv zs) m (by rw [iv_length]; omega)
    rw [iv_length] at this
    rw [this, h2, iv_append]
theorem Joins.row {g N : Nat} {xs : List Int} {w wr : World} (h : Joins g N N xs w wr) (hg : w.heap.size ≤ g) (hN : N ≤ maxLen) : Row w.heap.size wr (.slice (some ⟨g, 0, none⟩) N N) xs := by
  obtain ⟨cur, h1, h2, h3, h4, _⟩ := h
  subst h4
  exact ⟨by simp [iv], .inr ⟨g, xs.length, cur.toArray, rfl, hg, h1, Nat.le_refl _, hN, by simpa using h2, by simpa using h3⟩⟩
theorem iv_oneCell (xs : List Int) : ∀ v ∈ iv xs, v.oneCell' = true := by
  intro v hv
  simp only [iv, List.mem_map] at hv
  obtain ⟨x, _, rfl⟩ := hv
  rfl
theorem IntsAt.src {w : World} {ao : Option Addr} {xs : List Int} (h : IntsAt w ao xs) (hn : 0 < (iv xs).length) : ∃ ad, ao = some ad ∧ ∀ j v, (iv xs)[j]? = some v → w.cell? (ad.add j) = some v := by
  rcases h with rfl | ⟨b, off, rfl, _, hc⟩
  · simp [iv] at hn
  · refine ⟨_, rfl, fun j v hj => ?_⟩
    have hlt : j < xs.length := by
      have := (List.getElem?_eq_some_iff.1 hj).1
      rwa [iv_length] at this
    rw [iv_get hlt] at hj
    cases hj
    have := hc j hlt
    unfold Addr.add
    split
    · rename_i h0; subst h0; first | (simp; done) | (simpa using this)
    · exact this
theorem iv_min {m N d : Nat} {xs : List Int} (h : m + xs.length ≤ N) (hd : d = N - m) : (iv xs).length = Nat.min xs.length d := by rw [iv_length]; exact (Nat.min_eq_left (by omega)).symm
theorem size_int : (Try.prog.info? 3).map (·.size) = some 1 := by kernel_rfl
theorem IntsAt.cut {w : World} {b off : Nat} {t : List Int} (h : IntsAt w (some ⟨b, off, none⟩) t) (lo hi : Nat) : IntsAt w (some ⟨b, off + lo, none⟩) ((t.take hi).drop lo) := by
  rcases h with rfl | ⟨b', off', e, hlt, hc⟩
  · left; simp
  · simp only [Option.some.injEq, Addr.mk.injEq, and_true] at e
    obtain ⟨rfl, rfl⟩ := e
    refine .inr ⟨b, off + lo, rfl, hlt, fun i hi' => ?_⟩
    have h1 : lo + i < t.length := by simp at hi'; omega
    have := hc (lo + i) h1
    rw [Nat.add_assoc, this]
    simp
theorem IntsAt.nil (w : World) (ao : Option Addr) : IntsAt w ao [] := .inl rfl
theorem parts_one {w : World} {ao : Option Addr} {cap m : Nat} {xs : List Int} {T : TypeId} (h : IntsAt w ao xs) (hm : m = xs.length) : PartsAt (w.alloc (.cells #[.slice ao m cap] T)) w.heap.size [⟨ao, cap, xs⟩] := by
  subst hm
  refine ⟨by simp, fun i hi => ?_⟩
  obtain rfl : i = 0 := by simpa using hi
  exact ⟨cellAt (heap_alloc_new w _) 0, h.same ((Kept.refl _ w).alloc _)⟩
theorem parts_three {w : World} {a0 a1 a2 : Option Addr} {c0 c1 c2 m0 m1 m2 : Nat} {x0 x1 x2 : List Int} {T : TypeId} (h0 : IntsAt w a0 x0) (h1 : IntsAt w a1 x1) (h2 : IntsAt w a2 x2) (e0 : m0 = x0.length) (e1 : m1 = x1.length) (e2 : m2 = x2.length) :
    PartsAt (w.alloc (.cells #[.slice a0 m0 c0, .slice a1 m1 c1, .slice a2 m2 c2] T)) w.heap.size [⟨a0, c0, x0⟩, ⟨a1, c1, x1⟩, ⟨a2, c2, x2⟩] := by
  subst e0 e1 e2
  have k : Same0 w (w.alloc (.cells #[.slice a0 x0.length c0, .slice a1 x1.length c1, .slice a2 x2.length c2] T)) := (Kept.refl _ w).alloc _
  refine ⟨by simp, fun i hi => ?_⟩
  have hi' : i < 3 := by simpa using hi
  match i, hi' with
  | 0, _ => exact ⟨cellAt (heap_alloc_new w _) 0, h0.same k⟩
  | 1, _ => exact ⟨cellAt (heap_alloc_new w _) 1, h1.same k⟩
  | 2, _ => exact ⟨cellAt (heap_alloc_new w _) 2, h2.same k⟩
def subA (L : List Sym) (t : List Int) (a : Int) : List Int := if placeE L t a = 0 then subN L t a.toNat else []
def putE (L : List Sym) (t : List Int) (a : Int) (u : List Int) : Int := if placeE L t a ≠ 0 then placeE L t a else if checkE L u ≠ 0 then checkE L u else if 2000 < (putN L t a.toNat u).length then 20 else 0
def putA (L : List Sym) (t : List Int) (a : Int) (u : List Int) : List Int := if putE L t a u = 0 then putN L t a.toNat u else []
end Go.Proofs.Ythhcnllabhfejaa
/- The walk of Place of package term. -/
namespace Go.Proofs.Ythhcnllabhfejaa
set_option maxRecDepth 100000
set_option linter.unusedVariables false
open Go.RowKit
attribute [local go_sem ↓] Go.wp_at_zero Go.wp_at_succ
def leadE (L : List Sym) (t : List Int) (path : List Int) : Int := if checkE L t ≠ 0 then checkE L t else match leads L t 0 path with | some _ => 0 | none => 25
def leadA (L : List Sym) (t : List Int) (path : List Int) : Int := if checkE L t ≠ 0 then 0 else match leads L t 0 path with | some q => (q : Int) | none => 0
theorem leads_bad {L : List Sym} {t path : List Int} {q k : Nat} (h : leads L t 0 path = leads L t q (path.drop k)) (hk : k < path.length) (hq : q < t.length) (hn : path[k] < 0 ∨ (arN L t[q] : Int) ≤ path[k]) : leads L t 0 path = none := by
  rw [h, List.drop_eq_getElem_cons hk, leads]
  split
  · rfl
  · rw [argsN_eq hq, List.getElem?_eq_none (by rw [starts_length]; omega)]
theorem leads_good {L : List Sym} {t path : List Int} {q k i : Nat} (h : leads L t 0 path = leads L t q (path.drop k)) (hk : k < path.length) (hq : q < t.length) (hi : path[k] = (i : Int)) (hn : i < arN L t[q]) : leads L t 0 path = leads L t (past L t i (q + 1)) (path.drop (k + 1)) := by
  rw [h, List.drop_eq_getElem_cons hk, leads, hi, if_neg (by omega), argsN_eq hq]
  simp only [Int.toNat_natCast]
  rw [starts_at hn]
theorem past_lt {L : List Sym} {t : List Int} (h : IsT L t) {q i : Nat} (hq : q < t.length) (hi : i < arN L t[q]) : past L t i (q + 1) < t.length := by
  have hf := (Forest.one h hq).kids.2
  have hd := hf.drop (i := i) (by omega)
  rw [show arN L t[q] - i = (arN L t[q] - i - 1) + 1 by omega] at hd
  have := hd.pos
  have := hd.le
  omega
end Go.Proofs.Ythhcnllabhfejaa
/- The walks of Same (two lists of numbers) and Made (a signature of some symbols, the program's and the document's). -/
namespace Go.Proofs.Ythhcnllabhfejaa
set_option maxRecDepth 100000
set_option linter.unusedVariables false
open Go.RowKit
attribute [local go_sem ↓] Go.wp_at_zero Go.wp_at_succ
def sameB (xs ys : List Int) : Bool := decide (xs = ys)
theorem same_len {xs ys : List Int} (h : xs.length ≠ ys.length) : sameB xs ys = false := by
  simp [sameB]; intro e; exact h (by rw [e])
theorem take_eq_succ {xs ys : List Int} {k : Nat} (h : xs.take k = ys.take k) (hx : k < xs.length) (hy : k < ys.length) (he : xs[k] = ys[k]) : xs.take (k + 1) = ys.take (k + 1) := by
  rw [List.take_add_one, List.take_add_one, h, List.getElem?_eq_getElem hx, List.getElem?_eq_getElem hy, he]
set_option maxHeartbeats 2000000 in
theorem same_any {w : World} {ao bo : Option Addr} {acap bcap : Nat} {xs ys : List Int} (hx : IntsAt w ao xs) (hy : IntsAt w bo ys) (hm : xs.length ≤ maxLen) :
    Calls Try.prog 13 #[.slice ao xs.length acap, .slice bo ys.length bcap] w fun e w' => e = .returned (.bool (sameB xs ys)) ∧ Same0 w w' := by
  unfold maxLen at hm
  by_cases hl : xs.length = ys.length
  · have hl' : (xs.length : Int) = (ys.length : Int) := by omega
    go_enter Try.func13, Try.ntmps13
    go_wp2
    go_loopw [5] (fun i wr => ∃ k : Nat, k ≤ xs.length ∧ i = .int .i64 (k : Int) ∧ Hid (xs.take k = ys.take k) ∧ Same0 w wr) (fun i _ => xs.length - (intOf i).toNat)
    case atStart => exact ⟨0, Nat.zero_le _, rfl, by simp [Hid], Kept.refl _ _⟩
    case round =>
      obtain ⟨k, hk, rfl, ht, hs⟩ := hrel
      by_cases hlt : k < xs.length
      · have hlt' : k < ys.length := by omega
        obtain ⟨ab, ao', rfl, hab, hac⟩ := (hx.same hs).get hlt
        obtain ⟨bb, bo', rfl, hbb, hbc⟩ := (hy.same hs).get hlt'
        have i1 : (0 : Int) ≤ (k : Int) := by omega
        have i2 : (k : Int) < (xs.length : Int) := by omega
        have i3 : (k : Int) < (ys.length : Int) := by omega
        have d1 : wr.drew.cell? ⟨ab, ao' + k, none⟩ = some (.int .i64 xs[k]) := hac
        have d2 : wr.drew.cell? ⟨bb, bo' + k, none⟩ = some (.int .i64 ys[k]) := hbc
        by_cases he : xs[k] = ys[k]
        · have hn : Hid (xs.take (k + 1) = ys.take (k + 1)) := take_eq_succ ht.out hlt hlt' he
          have he' : (xs[k] == ys[k]) = true := by simpa using he
          go_wp2
          go_quiet (fail)
          go_wp2
          refine ⟨⟨k + 1, by omega, by go_num, hn, hs.drewN _⟩, by simp [intOf]; omega⟩
        · have H : Hid (sameB xs ys = false) := by
            show _ = _
            simp only [sameB, decide_eq_false_iff_not]
            intro e; subst e; exact he rfl
          have he' : (xs[k] == ys[k]) = false := by simpa using he
          go_wp2
          go_quiet (fail)
          go_wp2
          go_ret
          exact ⟨by rw [H.out]; rfl, hs.drewN _⟩
      · have H : Hid (sameB xs ys = true) := by
          have := ht.out
          rw [List.take_of_length_le (by omega), List.take_of_length_le (by omega)] at this
          show _ = _
          simpa [sameB] using this
        go_wp2
        go_ret
        exact ⟨by rw [H.out]; rfl, hs⟩
  · have hl' : ¬ (xs.length : Int) = (ys.length : Int) := by omega
    have H : Hid (sameB xs ys = false) := same_len hl
    go_enter Try.func13, Try.ntmps13
    go_wp2
    go_ret
    exact ⟨by rw [H.out]; rfl, Kept.refl _ _⟩
/-- The program's signature and the document's, of the same symbols, apart. -/
structure Both (n0 : Nat) (w0 w : World) (b rb : Nat) (L : List Sym) (sv : Value) (mr : Option Nat) (rv : Value) : Prop where
  sg : SigAt w b L sv mr
  rf : RefAt w rb L rv
  f : ∀ k, Foot b sv mr k → n0 ≤ k
  g : ∀ k, RFoot rb rv k → n0 ≤ k
  d : ∀ k, Foot b sv mr k → ¬ RFoot rb rv k
  k : Kept (From n0) w0 w
  a : Ars L
theorem Both.start (w : World) : Both w.heap.size w ((w.alloc (.cells #[.slice none 0 0, .map none] 73)).alloc (.cells #[.slice none 0 0] 52)) w.heap.size (w.heap.size + 1) [] (.slice none 0 0) none (.slice none 0 0) := by
  have k1 : Kept (fun _ => False) (w.alloc (.cells #[.slice none 0 0, .map none] 73)) ((w.alloc (.cells #[.slice none 0 0, .map none] 73)).alloc (.cells #[.slice none 0 0] 52)) := (Kept.refl _ _).alloc _
  have e1 : (w.alloc (.cells #[.slice none 0 0, .map none] 73)).heap.size = w.heap.size + 1 := by simp
  refine ⟨(sig_new w).kept k1 (fun _ _ f => f), ⟨?_, World.ownsRow_nil _ _ _ _, by simp [Value.ownBlock]⟩, ?_, ?_, ?_, ((Kept.refl _ w).alloc _).alloc _, fun x hx => by simp at hx⟩
  · rw [← e1]; exact heap_alloc_new _ _
  · rintro k (e | e | e)
    · omega
    · simp [Value.ownBlock] at e
    · simp at e
  · rintro k (e | e)
    · omega
    · simp [Value.ownBlock] at e
  · rintro k (e | e | e) (e' | e')
    · omega
    · simp [Value.ownBlock] at e'
    · simp [Value.ownBlock] at e
    · simp [Value.ownBlock] at e
    · simp at e
    · simp at e
theorem addL_ars {L : List Sym} (h : Ars L) (x : Sym) : Ars (addL L x) := by
  unfold addL
  split
  · rename_i hz
    intro y hy
    rcases List.mem_append.1 hy with hy | hy
    · exact h y hy
    · simp at hy; subst hy; exact add_ar hz
  · exact h
theorem Both.next {n0 : Nat} {w0 w w1 w2 : World} {b rb : Nat} {L : List Sym} {sv : Value} {mr : Option Nat} {rv : Value} (h : Both n0 w0 w b rb L sv mr rv) (x : Sym) (hn : n0 ≤ w.heap.size) {sv1 : Value} {mr1 : Option Nat}
    (h1 : SigAt w1 b (addL L x) sv1 mr1) (h2 : Kept (Foot b sv mr) w w1) (h3 : ∀ k, Foot b sv1 mr1 k → Foot b sv mr k ∨ w.heap.size ≤ k) (hr : RMoved w1 rb rv (addL L x) w2) : ∃ rv2, Both n0 w0 w2 b rb (addL L x) sv1 mr1 rv2 := by
  obtain ⟨rv2, r1, r2, r3⟩ := hr
  have hrl := h.rf.lt
  have dd : ∀ k, Foot b sv1 mr1 k → ¬ RFoot rb rv k := fun k hk hk' => by
    rcases h3 k hk with e | e
    · exact h.d k e hk'
    · have := hrl k hk'; omega
  have z1 := h2.size
  refine ⟨rv2, h1.kept r2 (fun k e => dd k e), r1, ?_, ?_, ?_, ?_, addL_ars h.a x⟩
  · intro k hk
    rcases h3 k hk with e | e
    · exact h.f k e
    · omega
  · intro k hk
    rcases r3 k hk with e | e
    · exact h.g k e
    · omega
  · intro k hk hk'
    rcases r3 k hk' with e | e
    · exact dd k hk e
    · have := sig_foot_lt h1 k hk; omega
  · exact (h.k.trans h2 (fun i _ e => h.f i e)).trans r2 (fun i _ e => h.g i e)
def madeL (xs : List Sym) : List Sym := xs.foldl addL []
theorem madeL_snoc {xs : List Sym} {k : Nat} (h : k < xs.length) : madeL (xs.take (k + 1)) = addL (madeL (xs.take k)) xs[k] := by
  rw [List.take_add_one, List.getElem?_eq_getElem h]
  unfold madeL
  rw [List.foldl_append]
  rfl
theorem from_below {w w' : World} (h : Kept (From w.heap.size) w w') : Same0 w w' := ⟨h.os, h.tape, h.output, h.size, fun k hk _ => h.block k hk (fun e => by omega)⟩
set_option maxHeartbeats 2000000 in
theorem made_any (ao : Option Addr) (len cap : Nat) (xs : List Sym) (w : World) (hx : SymsAt w ao len xs) (hm : len ≤ maxLen) :
    Calls Try.prog 10 #[.slice ao len cap] w fun e w' => ∃ b rv, e = .returned (.tuple #[.pointer (some ⟨b, 0, none⟩), rv]) ∧ Sg w'.heap.size w' b (madeL xs) ∧ Rl w'.heap.size w' rv (madeL xs) ∧ Same0 w w' := by
  unfold maxLen at hm
  go_enter Try.func10, Try.ntmps10
  go_wp2_with (first | (go_at_call 21; refine (new_any _).mono ?_; rintro e w' ⟨rfl, rfl⟩))
  go_loopw [6] (fun i wr => ∃ (k : Nat) (sv : Value) (mr : Option Nat) (rv : Value), k ≤ len ∧ i = .int .i64 (k : Int) ∧ Both w.heap.size w wr w.heap.size (w.heap.size + 1) (madeL (xs.take k)) sv mr rv) (fun i _ => len - (intOf i).toNat)
  case atStart => exact ⟨0, _, _, _, Nat.zero_le _, rfl, Both.start w⟩
  case round =>
    obtain ⟨k, sv, mr, rv, hk, rfl, hb⟩ := hrel
    have hlen := hb.sg.len
    by_cases hlt : k < len
    · obtain ⟨xl, xc, xw⟩ := hx.kept (from_below hb.k).below
      obtain ⟨xb, off, rfl, hxb, hxc⟩ := xc.resolve_left (by omega)
      have hkx : k < xs.length := by omega
      obtain ⟨x0, x1, x2⟩ := hxc k hkx
      have xsz := (xw xs[k] (List.getElem_mem hkx)).1
      have i1 : (0 : Int) ≤ (k : Int) := by omega
      have i2 : (k : Int) < (len : Int) := by omega
      have E1 : Hid (madeL (xs.take (k + 1)) = addL (madeL (xs.take k)) xs[k]) := madeL_snoc hkx
      have hn0 := hb.k.size
      have hxs := hx
      clear hxc xw xc xl
      generalize madeL (xs.take k) = L at *
      go_wp2_with fail
      refine (add_any hb.sg xs[k] xsz).mono ?_
      rintro e w1 ⟨rfl, sv1, mr1, h1, h2, h3⟩
      have hr1 : RefAt w1 (w.heap.size + 1) L rv := hb.rf.kept h2 (fun k hk' e => hb.d k e hk')
      have k1 : Kept (From w.heap.size) w w1 := hb.k.trans h2 (fun i _ e => hb.f i e)
      obtain ⟨y0, y1, y2⟩ : w1.cell? ⟨xb, off + k * 3, none⟩ = some (.string xs[k].name) ∧ w1.cell? ⟨xb, off + k * 3 + 1, none⟩ = some (.int .i64 xs[k].ar) ∧ w1.cell? ⟨xb, off + k * 3 + 2, none⟩ = some (.bool xs[k].df) := by
        obtain ⟨_, yc, _⟩ := hxs.kept (from_below k1).below
        obtain ⟨_, _, e, _, hyc⟩ := yc.resolve_left (by omega)
        simp only [Option.some.injEq, Addr.mk.injEq, and_true] at e
        rw [e.1, e.2]
        exact hyc k hkx
      clear x0 x1 x2
      go_wp2_with fail
      refine (radd_any hr1 hlen xs[k] xsz).mono ?_
      rintro e w2 ⟨rfl, hr⟩
      obtain ⟨rv2, hb2⟩ := hb.next xs[k] hn0 h1 h2 h3 hr
      go_wp2
      refine ⟨⟨k + 1, sv1, mr1, rv2, by omega, by go_num, ?_⟩, by simp [intOf]; omega⟩
      rw [E1.out]; exact hb2
    · have hxl := hx.1
      have E1 : xs.take k = xs := List.take_of_length_le (by omega)
      rw [E1] at hb hlen
      have r0 := hb.rf.c0
      clear E1
      go_wp2
      go_quiet (fail)
      go_wp2
      go_ret2
      have kd : Same0 wr (wr.drewN nq) := (Kept.refl _ _).drewN nq
      have fin : Sg wr.heap.size wr w.heap.size (madeL xs) ∧ Rl wr.heap.size wr rv (madeL xs) ∧ Same0 w wr := ⟨⟨⟨sv, mr, hb.sg, sig_foot_lt hb.sg⟩, hb.a⟩, ⟨hb.rf.row, fun k e => hb.rf.lt k (.inr e), hb.a, hlen⟩, from_below hb.k⟩
      exact ⟨w.heap.size, rv, rfl, fin.1.same kd, fin.2.1.same kd, fin.2.2.trans' kd⟩
end Go.Proofs.Ythhcnllabhfejaa
/- The walk of the head of layer 2's statements: calls whose answers the document fixes. -/
namespace Go.Proofs.Ythhcnllabhfejaa
set_option maxRecDepth 100000
set_option linter.unusedVariables false
open Go.RowKit
attribute [local go_sem ↓] Go.wp_at_zero Go.wp_at_succ
theorem ints_new (w : World) (xs : List Int) (T : TypeId) {o : Obj} (ho : o = .cells (iv xs).toArray T (0, 0)) : IntsAt (w.alloc o) (some ⟨w.heap.size, 0, none⟩) xs := by
  subst ho
  refine .inr ⟨_, _, rfl, by simp, fun i hi => ?_⟩
  rw [Nat.zero_add, cellAt (heap_alloc_new w _)]
  simpa using iv_get hi
theorem Row.ints {base : Nat} {w : World} {v : Value} {xs : List Int} (h : Row base w v xs) : ∃ ao cap, v = .slice ao xs.length cap ∧ IntsAt w ao xs ∧ xs.length ≤ cap ∧ (∀ a, ao = some a → base ≤ a.block ∧ a.block < w.heap.size) := by
  rcases h.2 with ⟨rfl, h0⟩ | ⟨g, cap, cur, rfl, hb, hg, h1, h2, h3, h4⟩
  · have : xs = [] := List.eq_nil_of_length_eq_zero h0
    subst this
    exact ⟨none, 0, rfl, .inl rfl, Nat.le_refl _, fun a e => by cases e⟩
  · refine ⟨_, cap, rfl, .inr ⟨g, 0, rfl, lt_of_at hg, fun i hi => ?_⟩, h1, fun a e => by cases e; exact ⟨hb, lt_of_at hg⟩⟩
    rw [Nat.zero_add, h.cellAt i (by omega)]
    exact iv_get hi
theorem Same0.new {w w' : World} {o : Obj} (h : Same0 (w.alloc o) w') : Same0 w w' := Same0.trans' ((Kept.refl _ w).alloc o) h
abbrev zS : Sym := ⟨⟨#[122]⟩, 0, false⟩
theorem nm_z : nameB ⟨#[122]⟩ = true := by decide +kernel
theorem madeL_awake : madeL [zS, aS, aAdd] = [zS, aS, aAdd] := by
  simp [madeL, addL, addErr, nm_z, nm_s, nm_add, findI]
theorem syms_awake (w : World) : SymsAt (w.alloc (.cells #[.string ⟨#[122]⟩, .int .i64 0, .bool false, .string ⟨#[115]⟩, .int .i64 1, .bool false, .string ⟨#[97, 100, 100]⟩, .int .i64 2, .bool true] 48)) (some ⟨w.heap.size, 0, none⟩) 3 [zS, aS, aAdd] := by
  refine ⟨rfl, .inr ⟨_, _, rfl, by simp, fun i hi => ?_⟩, ?_⟩
  · have hi' : i < 3 := by simpa using hi
    rw [cellAt (heap_alloc_new w _), cellAt (heap_alloc_new w _), cellAt (heap_alloc_new w _)]
    match i, hi' with
    | 0, _ => exact ⟨rfl, rfl, rfl⟩
    | 1, _ => exact ⟨rfl, rfl, rfl⟩
    | 2, _ => exact ⟨rfl, rfl, rfl⟩
  · intro x hx
    simp at hx
    rcases hx with rfl | rfl | rfl <;> exact ⟨by decide +kernel, by decide +kernel⟩
abbrev L3 : List Sym := [zS, aS, aAdd]
theorem aw_end : endA L3 [2, 1, 0, -1] 1 = 3 ∧ placeE L3 [2, 1, 0, -1] 1 = 0 := by decide +kernel
theorem aw_put : putA L3 [2, 1, 0, -1] 1 [-5] = [2, -5, -1] ∧ putE L3 [2, 1, 0, -1] 1 [-5] = 0 := by decide +kernel
theorem aw_lead : leadA L3 [2, 1, 0, -1] [0, 0] = 2 ∧ leadE L3 [2, 1, 0, -1] [0, 0] = 0 := by decide +kernel
theorem aw_check : checkE L3 [2, 1, 0] = 23 := by decide +kernel
theorem aw2_same {w : World} {T : TypeId} {ao : Option Addr} {cap : Nat} (h : IntsAt w ao [2, -5, -1]) : Calls Try.prog 13 #[.slice ao 3 cap, .slice (some ⟨w.heap.size, 0, none⟩) 3 3] (w.alloc (.cells #[.int .i64 2, .int .i64 (-5), .int .i64 (-1)] T)) fun e w' => e = .returned (.bool true) ∧ Same0 (w.alloc (.cells #[.int .i64 2, .int .i64 (-5), .int .i64 (-1)] T)) w' := by
  have k : Same0 w (w.alloc (.cells #[.int .i64 2, .int .i64 (-5), .int .i64 (-1)] T)) := (Kept.refl _ w).alloc _
  have c := same_any (acap := cap) (bcap := 3) (h.same k) (ints_new w [2, -5, -1] T rfl) (by decide)
  exact c
theorem aw2_check {n b : Nat} {w : World} {T : TypeId} (h : Sg n w b L3) : Calls Try.prog 42 #[.pointer (some ⟨b, 0, none⟩), .slice (some ⟨w.heap.size, 0, none⟩) 3 3] (w.alloc (.cells #[.int .i64 2, .int .i64 1, .int .i64 0] T)) fun e w' => e = .returned (.int .i64 23) ∧ Same0 (w.alloc (.cells #[.int .i64 2, .int .i64 1, .int .i64 0] T)) w' := by
  have c := check_any (cap := 3) (h.same ((Kept.refl _ w).alloc _)) (ints_new w [2, 1, 0] T rfl) (by decide)
  rw [aw_check] at c
  exact c
end Go.Proofs.Ythhcnllabhfejaa
/- The walks of the document's term (ref02): arity, Check, End, Args, Sub, Put. -/
namespace Go.Proofs.Ythhcnllabhfejaa
set_option maxRecDepth 100000
set_option linter.unusedVariables false
open Go.RowKit
attribute [local go_sem ↓] Go.wp_at_zero Go.wp_at_succ
set_option maxHeartbeats 1000000 in
theorem rArity_any {n : Nat} {w : World} {rv : Value} {L : List Sym} (h : Rl n w rv L) (x : Int) : Calls Try.prog 49 #[rv, .int .i64 x] w fun e w' => e = .returned (.int .i64 (if x < 0 ∨ (L.length : Int) ≤ x then -1 else (arN L x : Int))) ∧ w' = w := by
  obtain ⟨hr, _, ha, hlen⟩ := h
  obtain ⟨ao, cap, rfl⟩ := row_shape hr
  by_cases h0 : x < 0
  · go_enter Try.func49, Try.ntmps49
    go_wp2
    go_ret
    exact ⟨rfl, rfl⟩
  · by_cases h1 : (L.length : Int) ≤ x
    · go_enter Try.func49, Try.ntmps49
      go_wp2
      go_ret
      exact ⟨rfl, rfl⟩
    · obtain ⟨i, rfl⟩ : ∃ i : Nat, x = (i : Int) := ⟨x.toNat, by omega⟩
      have hi : i < L.length := by omega
      have H : Hid (((arN L (i : Int) : Nat) : Int) = L[i].ar) := ar_of ha hi
      obtain ⟨g, rfl, hg, x0, x1, x2⟩ := row_sym hr hi
      have i1 : (0 : Int) ≤ (i : Int) := by omega
      have i2 : (i : Int) < (L.length : Int) := by omega
      go_enter Try.func49, Try.ntmps49
      go_wp2
      go_ret
      exact ⟨by rw [H.out]; rfl, rfl⟩
set_option maxHeartbeats 1000000 in
theorem rarity_any {n : Nat} {w : World} {rv : Value} {L : List Sym} (h : Rl n w rv L) (x : Int) : Calls Try.prog 32 #[rv, .int .i64 x] w fun e w' => e = .returned (.int .i64 (arN L x : Int)) ∧ w' = w := by
  have c := rArity_any h x
  by_cases hx : x < 0 ∨ (L.length : Int) ≤ x
  · rw [if_pos hx] at c
    have H : Hid (arN L x = 0) := ar_no hx
    go_enter Try.func32, Try.ntmps32
    go_wp2_with (first | (go_at_call 49; refine c.mono ?_; rintro e w' ⟨rfl, rfl⟩))
    go_ret
    exact ⟨by rw [H.out]; rfl, rfl⟩
  · rw [if_neg hx] at c
    go_enter Try.func32, Try.ntmps32
    go_wp2_with (first | (go_at_call 49; refine c.mono ?_; rintro e w' ⟨rfl, rfl⟩))
    go_ret
    exact ⟨rfl, rfl⟩
set_option maxHeartbeats 2000000 in
theorem rend_any {n : Nat} {w : World} {rv : Value} {L : List Sym} (h : Rl n w rv L) {ao : Option Addr} {cap : Nat} {t : List Int} (ht : IntsAt w ao t) (hm : t.length ≤ 2000) (p0 : Nat) (hp0 : p0 ≤ t.length) :
    Calls Try.prog 46 #[rv, .slice ao t.length cap, .int .i64 (p0 : Int)] w fun e w' => e = .returned (.int .i64 (endN L t p0)) ∧ w' = w := by
  have ha := h.2.2.1
  go_enter Try.func46, Try.ntmps46
  go_wp2
  go_loop [7, 8] (fun la at' => ∃ p k : Nat, p0 ≤ p ∧ p ≤ t.length ∧ at' = .int .i64 (p : Int) ∧ la = .int .i64 (k : Int) ∧ k ≤ 1 + 6 * (p - p0) ∧ Hid (endO L t p0 = (scan L k (t.drop p)).map (p + ·))) (fun _ at' => t.length - (intOf at').toNat)
  case atStart => exact ⟨p0, 1, Nat.le_refl _, hp0, rfl, rfl, by omega, rfl⟩
  case round =>
    obtain ⟨p, k, h1, h2, rfl, rfl, h3, h4⟩ := hrel
    by_cases hlt : p < t.length
    · cases k with
      | zero =>
        have H6 : Hid (endN L t p0 = p) := by
          have := h4.out
          simp [scan_zero] at this
          show _ = _
          simp [endN, this]
        go_wp2
        go_ret
        exact ⟨by rw [H6.out]; rfl, rfl⟩
      | succ k =>
        obtain ⟨tb, off, rfl, htb, hc⟩ := ht.get hlt
        have c := rarity_any h t[p]
        have hle := arN_le ha t[p]
        have H5 : Hid (endO L t p0 = (scan L (k + arN L t[p]) (t.drop (p + 1))).map (p + 1 + ·)) := endO_round h4.out hlt
        have i1 : (0 : Int) ≤ (p : Int) := by omega
        have i2 : (p : Int) < (t.length : Int) := by omega
        clear h4
        generalize arN L t[p] = a at *
        go_wp2_with (first | (go_at_call 32; refine c.mono ?_; rintro e w' ⟨rfl, rfl⟩))
        refine ⟨⟨p + 1, k + a, by omega, by omega, by go_num, by first | (congr 1; omega) | congr 1, by omega, H5⟩, by simp [intOf]; omega⟩
    · have H6 : Hid (endN L t p0 = p) := by
        have h4 := h4.out
        rw [List.drop_eq_nil_of_le (by omega)] at h4
        show _ = _
        cases k with
        | zero => simp [scan] at h4; simp [endN, h4]
        | succ k => simp [scan] at h4; simp [endN, h4]; omega
      go_wp2
      go_ret
      exact ⟨by rw [H6.out]; rfl, rfl⟩
theorem need_take {L : List Sym} {t : List Int} {p k : Nat} (h : need L 1 (t.take p) = some k) (hp : p < t.length) : (k = 0 → ¬ need L 1 t = some 0) ∧ (∀ j, k = j + 1 → need L 1 (t.take (p + 1)) = some (j + arN L t[p])) := by
  have e : t = t.take p ++ (t[p] :: t.drop (p + 1)) := by rw [← List.drop_eq_getElem_cons hp, List.take_append_drop]
  constructor
  · rintro rfl hn
    rw [e, need_append, h, Option.bind_some, need] at hn
    cases hn
  · rintro j rfl
    rw [List.take_add_one, need_append, h, List.getElem?_eq_getElem hp]
    simp [need]
theorem checkE_shape {L : List Sym} {t : List Int} (h : ¬ 2000 < t.length) (hb : badE L t = 0) : checkE L t = if need L 1 t = some 0 then 0 else 23 := by
  simp [checkE, h, hb]
set_option maxHeartbeats 4000000 in
theorem rcheck_any {n : Nat} {w : World} {rv : Value} {L : List Sym} (h : Rl n w rv L) {ao : Option Addr} {cap : Nat} {t : List Int} (ht : IntsAt w ao t) (hm : t.length ≤ maxLen) :
    Calls Try.prog 20 #[rv, .slice ao t.length cap] w fun e w' => e = .returned (.int .i64 (checkE L t)) ∧ w' = w := by
  unfold maxLen at hm
  have ha := h.2.2.1
  have hL64 := h.2.2.2
  obtain ⟨ro, rcap, rfl⟩ := row_shape h.1
  by_cases hl : 2000 < t.length
  · have H : Hid (checkE L t = 20) := checkE_long hl
    go_enter Try.func20, Try.ntmps20
    go_wp2
    go_ret
    exact ⟨ret_int H.out.symm, rfl⟩
  · have hl' : t.length ≤ 2000 := by omega
    go_enter Try.func20, Try.ntmps20
    go_wp2
    go_loop [5] (fun i => ∃ p : Nat, p ≤ t.length ∧ i = .int .i64 (p : Int) ∧ Hid (badE L (t.take p) = 0)) (fun i => t.length - (intOf i).toNat)
    case atStart => exact ⟨0, Nat.zero_le _, rfl, by simp [badE, Hid]⟩
    case round =>
      obtain ⟨p, h1, rfl, h2⟩ := hrel
      by_cases hlt : p < t.length
      · obtain ⟨tb, off, rfl, htb, hc⟩ := ht.get hlt
        have i1 : (0 : Int) ≤ (p : Int) := by omega
        have i2 : (p : Int) < (t.length : Int) := by omega
        obtain ⟨s1, s2⟩ := badE_step hlt h2.out
        by_cases q1 : (L.length : Int) ≤ t[p]
        · have e0 : numE L t[p] = 21 := by simp [numE, q1]
          have H : Hid (checkE L t = 21) := by
            show _ = _
            have := s1 (by omega)
            rw [checkE_bad hl (by omega)]; omega
          clear s1 s2 h2 e0
          go_wp2
          go_ret
          exact ⟨ret_int H.out.symm, rfl⟩
        · by_cases q2 : t[p] < -99
          · have e0 : numE L t[p] = 22 := by simp [numE, q1, q2]
            have H : Hid (checkE L t = 22) := by
              show _ = _
              have := s1 (by omega)
              rw [checkE_bad hl (by omega)]; omega
            clear s1 s2 h2 e0
            go_wp2
            go_ret
            exact ⟨ret_int H.out.symm, rfl⟩
          · have e0 : numE L t[p] = 0 := by simp [numE, q1, q2]
            have S2 : Hid (badE L (t.take (p + 1)) = 0) := s2 e0
            clear s1 s2 h2 e0
            go_wp2
            exact ⟨⟨p + 1, by omega, by go_num, S2⟩, by simp [intOf]; omega⟩
      · obtain rfl : p = t.length := by omega
        have hb := h2.out
        rw [List.take_length] at hb
        have HC : Hid (checkE L t = if need L 1 t = some 0 then 0 else 23) := checkE_shape hl hb
        clear h2 hb
        go_wp2
        go_loop [6, 7] (fun la i => ∃ p k : Nat, p ≤ t.length ∧ i = .int .i64 (p : Int) ∧ la = .int .i64 (k : Int) ∧ k ≤ 1 + 6 * p ∧ Hid (need L 1 (t.take p) = some k)) (fun _ i => t.length - (intOf i).toNat)
        case atStart => exact ⟨0, 1, Nat.zero_le _, rfl, rfl, by omega, by simp [need, Hid]⟩
        case round =>
          obtain ⟨p, k, g1, rfl, rfl, g2, g3⟩ := hrel
          by_cases hlt2 : p < t.length
          · obtain ⟨tb, off, rfl, htb, hc⟩ := ht.get hlt2
            have i1 : (0 : Int) ≤ (p : Int) := by omega
            have i2 : (p : Int) < (t.length : Int) := by omega
            obtain ⟨s1, s2⟩ := need_take g3.out hlt2
            cases k with
            | zero =>
              have H : Hid (checkE L t = 23) := by show _ = _; rw [HC.out, if_neg (s1 rfl)]
              clear s1 s2 g3 HC
              go_wp2
              go_ret
              exact ⟨ret_int H.out.symm, rfl⟩
            | succ k =>
              have S2 : Hid (need L 1 (t.take (p + 1)) = some (k + arN L t[p])) := s2 k rfl
              have c := rarity_any h t[p]
              have hle := arN_le ha t[p]
              clear s1 s2 g3 HC
              generalize arN L t[p] = a at *
              go_wp2_with (first | (go_at_call 32; refine c.mono ?_; rintro e w' ⟨rfl, rfl⟩))
              refine ⟨⟨p + 1, k + a, by omega, by go_num, by first | (congr 1; omega) | congr 1, by omega, S2⟩, by simp [intOf]; omega⟩
          · obtain rfl : p = t.length := by omega
            have g4 := g3.out
            rw [List.take_length] at g4
            by_cases hk0 : k = 0
            · subst hk0
              have H : Hid (checkE L t = 0) := by show _ = _; rw [HC.out, if_pos g4]
              clear g3 g4 HC
              go_wp2
              go_ret
              exact ⟨ret_int H.out.symm, rfl⟩
            · have H : Hid (checkE L t = 23) := by show _ = _; rw [HC.out, if_neg (by rw [g4]; simp; exact hk0)]
              clear g3 g4 HC
              go_wp2
              go_ret
              exact ⟨ret_int H.out.symm, rfl⟩
/-- append of one number to a row of the call's own. -/
theorem wpList_push {w0 : World} {ops : Array Oper} {rest : List Oper} {o : Oper} {a : Act} {Q : Exit → Act → World → Prop} (hgd : o.guard = none) (s x : Operand) (t : TypeId)
    (ho : o.op = .call { callee := .builtin .append, args := #[s, x], argTypes := #[t, t] }) (ht : Try.prog.underlying t = some (.slice 3))
    (base : Nat) (xs : List Int) (v : Value) (hs : a.eval s = v) (hr : Row base w0 v xs) (y : Int) (hx : a.eval x = .slice (some ⟨w0.heap.size, 0, none⟩) 1 1) (hb : base ≤ w0.heap.size) (hsz : (xs.length + 1) * 8 ≤ 140737488355328)
    (h : ∀ g cap w', Row base w' (.slice (some ⟨g, 0, none⟩) (xs.length + 1) cap) (xs ++ [y]) → Kept (fun k => v.ownBlock = some k) w0 w' → (v.ownBlock = some g ∨ w0.heap.size ≤ g) → wpList Try.prog ops Q rest (a.put o.dst (.slice (some ⟨g, 0, none⟩) (xs.length + 1) cap)) w') :
    wpList Try.prog ops Q (o :: rest) a (w0.alloc (.cells #[.int .i64 y] 3)) := by
  obtain ⟨i, hi, hz0, hz1, hz2⟩ := info_parts info_intT
  refine wpList_append_lies _ hgd s x t ho base 3 i (.int .i64 0) 1 8 ht hi hz0 hz1 hz2 rfl (by decide) v xs.length (iv xs) hs (hr.alloc _) ⟨w0.heap.size, 0, none⟩ 1 1 [.int .i64 y] hx rfl (cell_one_new _ _ _) (by simp [Value.oneCell']) (by omega) (by unfold maxLen; omega) hsz (by simp; omega) (w0.heap.size + 1) (by simp) ?_
  intro g cap w' hown hgrow hat hlt
  refine h g cap w' ?_ ?_ (hat.imp id (fun e => by omega))
  · unfold Row; rw [iv_append, List.length_append]; exact hown
  · exact Kept.grown (Kept.alloc (Kept.refl _ w0) _) hgrow (fun _ e _ => e)
theorem Same0.onto {w w0 w' : World} {v : Value} {xs : List Int} (h : Same0 w w0) (hr : Row w.heap.size w0 v xs) (hk : Kept (fun k => v.ownBlock = some k) w0 w') : Same0 w w' :=
  h.trans hk (fun i hi e => by have := (hr.lt i e).1; omega)
set_option maxHeartbeats 4000000 in
theorem rargs_any {n : Nat} {w : World} {rv : Value} {L : List Sym} (h : Rl n w rv L) {ao : Option Addr} {cap : Nat} {t : List Int} (ht : IntsAt w ao t) (hm : t.length ≤ 2000) (hT : IsT L t) (p : Nat) (hp : p < t.length) :
    Calls Try.prog 58 #[rv, .slice ao t.length cap, .int .i64 (p : Int)] w fun e w' => ∃ v, e = .returned v ∧ Row w.heap.size w' v (ofN (argsN L t p)) ∧ Same0 w w' := by
  have H : Hid (argsN L t p = starts L t (arN L t[p]) (p + 1)) := argsN_eq hp
  have hf := (Forest.one hT hp).kids.2
  have har := arN_le h.2.2.1 t[p]
  have c1 : ∀ w1, Same0 w w1 → Calls Try.prog 32 #[rv, .int .i64 t[p]] w1 fun e w' => e = .returned (.int .i64 (arN L t[p] : Int)) ∧ w' = w1 := fun w1 hk => rarity_any (h.same hk) t[p]
  have c2 : ∀ w1 q, Same0 w w1 → q < t.length → Calls Try.prog 46 #[rv, .slice ao t.length cap, .int .i64 (q : Int)] w1 fun e w' => e = .returned (.int .i64 (endN L t q : Int)) ∧ w' = w1 := fun w1 q hk hq => rend_any (cap := cap) (h.same hk) (ht.same hk) hm q (by omega)
  have i1 : (0 : Int) ≤ (p : Int) := by omega
  have i2 : (p : Int) < (t.length : Int) := by omega
  have i0 : ¬ (p : Int) < 0 := by omega
  have i0' : decide ((p : Int) < 0) = false := by simp
  obtain ⟨ro, rcap, rfl⟩ := row_shape h.1
  obtain ⟨tb, off, rfl, htb, hc⟩ := ht.get hp
  have hc' : ∀ w1, Same0 w w1 → w1.cell? ⟨tb, off + p, none⟩ = some (.int .i64 t[p]) := fun w1 hk => (hk.cell (p := ⟨tb, off + p, none⟩) htb (fun f => f)).trans hc
  generalize hA : arN L t[p] = A at *
  have hA : Hid (arN L t[p] = A) := hA
  go_enter Try.func58, Try.ntmps58
  go_wp2
  go_loopw [7, 8, 9] (fun out nx i wr => ∃ k : Nat, k ≤ A ∧ i = .int .i64 (k : Int) ∧ nx = .int .i64 (past L t k (p + 1) : Int) ∧ Row w.heap.size wr out (ofN (starts L t k (p + 1))) ∧ Same0 w wr) (fun _ _ i _ => A - (intOf i).toNat)
  case atStart => exact ⟨0, Nat.zero_le _, rfl, rfl, World.ownsRow_nil _ _ _ _, Kept.refl _ _⟩
  case round =>
    obtain ⟨k, hkA, rfl, rfl, hr, hs⟩ := hrel
    have d0 := hc' _ hs
    have cA := c1 _ hs
    by_cases hlt : k < A
    · have hfk := hf.drop (i := k) (by omega)
      rw [show A - k = (A - k - 1) + 1 by omega] at hfk
      have hq : past L t k (p + 1) < t.length := by have := hfk.pos; have := hfk.le; omega
      have e1 : Hid (past L t (k + 1) (p + 1) = endN L t (past L t k (p + 1))) := past_succ L t k (p + 1)
      have e2 : Hid (ofN (starts L t (k + 1) (p + 1)) = ofN (starts L t k (p + 1)) ++ [((past L t k (p + 1) : Nat) : Int)]) := by show _ = _; rw [starts_snoc]; simp [ofN]
      have hlen : (ofN (starts L t k (p + 1))).length = k := by simp [ofN, starts_length]
      have hlt' : ¬ A ≤ k := by omega
      clear hfk c1 hc'
      generalize past L t k (p + 1) = P at *
      generalize ofN (starts L t k (p + 1)) = out at *
      subst hlen
      obtain ⟨oo, ocap, rfl⟩ := row_shape hr
      go_wp2_with (first | (go_at_call 32; refine cA.mono ?_; rintro e w' ⟨rfl, rfl⟩) | (at_builtin; refine wpList_push rfl _ _ 24 rfl Try.underlying24 w.heap.size out _ rfl hr (P : Int) rfl hs.size (by omega) ?_; intro g gcap w4 hr4 hk4 _; have hs4 := hs.onto hr hk4) | (go_at_call 46; refine (c2 _ _ hs4 hq).mono ?_; rintro e w' ⟨rfl, rfl⟩))
      rw [← e2.out] at hr4
      go_roundw
      case rel => first | exact ⟨out.length + 1, by omega, by go_num, by rw [e1.out], hr4, hs4⟩ | ((repeat apply Exists.intro); exact ⟨⟨out.length + 1, by omega, by go_num, by rw [e1.out], hr4, hs4⟩, rfl⟩)
      case measure => simp [intOf]; omega
    · obtain rfl : k = A := by omega
      obtain ⟨oo, ocap, rfl⟩ := row_shape hr
      clear c1 c2 hc'
      go_wp2_with (first | (go_at_call 32; refine cA.mono ?_; rintro e w' ⟨rfl, rfl⟩))
      go_ret
      refine ⟨_, rfl, ?_, hs⟩
      rw [H.out]; exact hr
end Go.Proofs.Ythhcnllabhfejaa
