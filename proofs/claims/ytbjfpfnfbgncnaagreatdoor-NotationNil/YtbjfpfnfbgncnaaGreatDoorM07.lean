import Derived.Test.YtbjfpfnfbgncnaaGreatDoorM06
import Derived.Lib.ItoaNum
import Derived.Lib.Atoi
import Derived.Test.YtbjfpfnfbgncnaaGreatDoorM05
import Derived.Test.YtbjfpfnfbgncnaaGreatDoorM01
import Derived.Test.YtbjfpfnfbgncnaaGreatDoorProg
import Derived.KernelRfl
/- Numbers in decimal digits: they are tokens, and their value is the number; names and variables that are written are tokens; no program in sight. -/
namespace Go.Proofs.YtbjfpfnfbgncnaaGreatDoor
set_option linter.unusedVariables false
set_option linter.unusedSimpArgs false
/-- The value of digits, behind n. -/
def valF (n : Nat) (l : List UInt8) : Nat := l.foldl (fun n b => 10 * n + (b.toNat - 48)) n
def valL (l : List UInt8) : Nat := valF 0 l
theorem valF_append (n : Nat) (a b : List UInt8) : valF n (a ++ b) = valF (valF n a) b := List.foldl_append
theorem valF_one (n : Nat) (b : UInt8) : valF n [b] = 10 * n + (b.toNat - 48) := rfl
theorem digit_nat {d : Nat} (h : d < 10) : (UInt8.ofNat (48 + d)).toNat = 48 + d := by
  rw [UInt8.toNat_ofNat']
  exact Nat.mod_eq_of_lt (by omega)
theorem digit_dg {d : Nat} (h : d < 10) : dgU (UInt8.ofNat (48 + d)) = true := by
  unfold dgU dgB
  rw [digit_nat h, Bool.and_eq_true, decide_eq_true_eq, decide_eq_true_eq]
  omega
theorem dec_small {u : Nat} (h : u < 10) : Lib.decDigits u = [UInt8.ofNat (48 + u)] := by rw [Lib.decDigits, dif_pos h]
theorem dec_big {u : Nat} (h : ¬ u < 10) : Lib.decDigits u = Lib.decDigits (u / 10) ++ [UInt8.ofNat (48 + u % 10)] := by rw [Lib.decDigits, dif_neg h]
theorem dec_all (u : Nat) : ∀ b ∈ Lib.decDigits u, dgU b = true := by
  induction u using Nat.strongRecOn with
  | _ u ih =>
    by_cases h : u < 10
    · rw [dec_small h]; intro b hb; rw [List.mem_singleton.1 hb]; exact digit_dg h
    · rw [dec_big h]
      intro b hb
      rcases List.mem_append.1 hb with hb | hb
      · exact ih (u / 10) (by omega) b hb
      · rw [List.mem_singleton.1 hb]; exact digit_dg (by omega)
theorem dec_val (u : Nat) : valL (Lib.decDigits u) = u := by
  induction u using Nat.strongRecOn with
  | _ u ih =>
    by_cases h : u < 10
    · rw [dec_small h, valL, valF_one, digit_nat h]; omega
    · rw [dec_big h, valL, valF_append]
      have := ih (u / 10) (by omega)
      unfold valL at this
      rw [this, valF_one, digit_nat (by omega)]; omega
/-- The first digit of a number above 0 is none. -/
theorem dec_head (u : Nat) : ∃ b r, Lib.decDigits u = b :: r ∧ (0 < u → b ≠ 48) := by
  induction u using Nat.strongRecOn with
  | _ u ih =>
    by_cases h : u < 10
    · refine ⟨_, [], dec_small h, fun h0 e => ?_⟩
      have := congrArg UInt8.toNat e
      rw [digit_nat h] at this
      have h48 : (48 : UInt8).toNat = 48 := rfl
      omega
    · obtain ⟨b, r, e, hb⟩ := ih (u / 10) (by omega)
      exact ⟨b, r ++ [UInt8.ofNat (48 + u % 10)], by rw [dec_big h, e]; rfl, fun _ => hb (by omega)⟩
theorem dec_len {u k : Nat} (h : u < 10 ^ (k + 1)) : (Lib.decDigits u).length ≤ k + 1 := by
  induction k generalizing u with
  | zero => rw [dec_small (by simpa using h)]; simp
  | succ k ih =>
    by_cases h10 : u < 10
    · rw [dec_small h10]; simp
    · rw [dec_big h10]
      have := ih (u := u / 10) (by rw [Nat.pow_succ] at h; omega)
      simp; omega
theorem dg_not {b : UInt8} (h : dgU b = true) : smU b = false ∧ grU b = false ∧ blankB b = false ∧ b ≠ 37 := by
  have hb : 48 ≤ b.toNat ∧ b.toNat ≤ 57 := by simp only [dgU, dgB, Bool.and_eq_true, decide_eq_true_eq] at h; omega
  refine ⟨by unfold smU smB; simp; omega, by unfold grU grB; simp; omega, ?_, ?_⟩
  · unfold blankB
    simp only [decide_eq_false_iff_not]
    rintro (e | e | e | e) <;> (subst e; revert hb; decide)
  · intro e; subst e; revert hb; decide
theorem takeWhile_len_all {P : UInt8 → Bool} {r : List UInt8} (h : ∀ x ∈ r, P x = true) : (r.takeWhile P).length = r.length := by
  have := takeWhile_stops (s := []) h (by simp)
  rw [List.append_nil] at this
  rw [this]
/-- A number that is written is a token. -/
theorem dec_tok {u : Nat} (h : u ≤ 999999999) : IsTok 3 (Lib.decDigits u) := by
  obtain ⟨b, r, e, hb⟩ := dec_head u
  have hall := dec_all u
  rw [e] at hall
  have hd := hall b (by simp)
  obtain ⟨h1, h2, h3, h4⟩ := dg_not hd
  have hlen := dec_len (u := u) (k := 8) (by omega)
  rw [e] at hlen
  simp only [List.length_cons] at hlen
  refine ⟨b, r, e, h3, h4, by unfold beginsK; rw [if_neg (by simp [h1]), if_neg (by simp [h2]), if_pos hd], by omega, ?_, ?_⟩
  · unfold lenK
    rw [if_neg (by omega), takeWhile_len_all (fun x hx => by
      show goesB 3 x = true
      unfold goesB; rw [if_neg (by omega), if_neg (by omega), if_pos rfl]; exact hall x (by simp [hx]))]
    omega
  · unfold wrongK
    rw [if_neg (by omega), if_neg ?_]
    rintro ⟨_, h5 | ⟨h5, h6⟩⟩
    · omega
    · by_cases h0 : 0 < u
      · exact hb h0 h6
      · have hu : u = 0 := by omega
        subst hu
        rw [dec_small (by omega)] at e
        have e2 := (List.cons.inj e).2
        rw [← e2] at h5; simp at h5
/-- A variable that is written is a token. -/
theorem var_tok {u : Nat} (h : u < 10 ^ 11) : IsTok 2 (88 :: Lib.decDigits u) := by
  have hall := dec_all u
  have hlen := dec_len (u := u) (k := 10) h
  refine ⟨88, Lib.decDigits u, rfl, by decide, by decide, by unfold beginsK; rw [if_neg (by decide), if_pos (by decide)], by omega, ?_, ?_⟩
  · unfold lenK
    rw [if_neg (by omega), takeWhile_len_all (fun x hx => by
      show goesB 2 x = true
      unfold goesB; rw [if_neg (by omega), if_pos rfl, hall x hx]; rfl)]
    omega
  · unfold wrongK
    rw [if_neg (by omega), if_neg (by omega)]
/-- A name is a token. -/
theorem name_tok {s : ByteArray} (h : NameP s) : IsTok 1 s.data.toList := by
  obtain ⟨h1, h2, h3⟩ := h
  have hsz : s.data.toList.length = s.size := by simp
  cases hl : s.data.toList with
  | nil => rw [hl] at hsz; simp at hsz; omega
  | cons b r =>
    rw [hl] at hsz
    simp only [List.length_cons] at hsz
    have hget : ∀ i (hi : i < s.size) (hi' : i < (b :: r).length), s[i] = (b :: r)[i] := by
      intro i hi hi'
      have : s[i] = s.data.toList[i]'(by rw [hl]; exact hi') := rfl
      rw [this]
      simp only [hl]
    have hb := h3 0 (by omega)
    rw [hget 0 (by omega) (by simp)] at hb
    simp only [List.getElem_cons_zero, nmAt] at hb
    have hsm : smU b = true := by simpa [smU] using hb
    have hr : ∀ x ∈ r, goesB 1 x = true := by
      intro x hx
      obtain ⟨i, hi, rfl⟩ := List.getElem_of_mem hx
      have := h3 (i + 1) (by omega)
      rw [hget (i + 1) (by omega) (by simp; omega)] at this
      simp only [List.getElem_cons_succ, nmAt] at this
      unfold goesB
      rw [if_pos rfl]
      unfold dgU smU
      simp at this ⊢
      exact this.symm
    have hbb : 97 ≤ b.toNat ∧ b.toNat ≤ 122 := by simp only [smU, smB, Bool.and_eq_true, decide_eq_true_eq] at hsm; omega
    refine ⟨b, r, rfl, ?_, ?_, by unfold beginsK; rw [if_pos hsm], by omega, ?_, ?_⟩
    · unfold blankB
      simp only [decide_eq_false_iff_not]
      rintro (e | e | e | e) <;> (subst e; revert hbb; decide)
    · intro e; subst e; revert hbb; decide
    · unfold lenK; rw [if_neg (by omega), takeWhile_len_all hr]; omega
    · unfold wrongK; rw [if_neg (by omega), if_neg (by omega)]
/-- The tokens of one sign, and the arrow. -/
theorem sign_tok : IsTok 4 [40] ∧ IsTok 5 [41] ∧ IsTok 6 [44] ∧ IsTok 7 [59] ∧ IsTok 8 [45, 62] ∧ IsTok 9 [47] ∧ IsTok 10 [46] ∧ IsTok 11 [58] ∧ IsTok 12 [42] := by
  refine ⟨⟨40, [], ?_⟩, ⟨41, [], ?_⟩, ⟨44, [], ?_⟩, ⟨59, [], ?_⟩, ⟨45, [62], ?_⟩, ⟨47, [], ?_⟩, ⟨46, [], ?_⟩, ⟨58, [], ?_⟩, ⟨42, [], ?_⟩⟩ <;>
    exact ⟨rfl, by decide, by decide, by decide, by decide, by simp [lenK, goesB], by decide⟩
/-- Behind a sign anything may stand. -/
theorem stops_sign {k : Nat} (h : k ≠ 1 ∧ k ≠ 2 ∧ k ≠ 3) (s : List UInt8) : Stops k s := fun b _ => by
  unfold goesB; rw [if_neg h.1, if_neg h.2.1, if_neg h.2.2]
/-- Signs and blanks go on with nothing. -/
theorem stops_at {k : Nat} {b : UInt8} {s : List UInt8} (h : smU b = false ∧ grU b = false ∧ dgU b = false) : Stops k (b :: s) := fun c hc => by
  simp at hc; subst hc
  unfold goesB; rw [h.1, h.2.1, h.2.2]; repeat' split
  all_goals rfl
theorem stops_nil (k : Nat) : Stops k [] := fun b hb => by simp at hb
end Go.Proofs.YtbjfpfnfbgncnaaGreatDoor
/- Tokens as a text gives them: an End at the end and nowhere else, Numbers of at most nine digits; no program in sight. -/
namespace Go.Proofs.YtbjfpfnfbgncnaaGreatDoor
set_option linter.unusedVariables false
def TokOk (t : Tok) : Prop := t.text.length ≤ 20000 ∧ (t.kind = 3 → t.text ≠ [] ∧ t.text.length ≤ 9 ∧ ∀ b ∈ t.text, 48 ≤ b.toNat ∧ b.toNat ≤ 57)
/-- Tokens end with an End, and no other one is among them. -/
def EndsT : List Tok → Prop
  | [] => False
  | t :: r => TokOk t ∧ ((t.kind = 13 ∧ r = []) ∨ (t.kind ≠ 13 ∧ EndsT r))
theorem EndsT.ne {ts : List Tok} (h : EndsT ts) : ts ≠ [] := by cases ts <;> simp_all [EndsT]
theorem EndsT.ok {t : Tok} {r : List Tok} (h : EndsT (t :: r)) : TokOk t := h.1
theorem EndsT.next {t : Tok} {r : List Tok} (h : EndsT (t :: r)) (hk : t.kind ≠ 13) : EndsT r := by
  rcases h.2 with h | h
  · exact absurd h.1 hk
  · exact h.2
theorem EndsT.last {t : Tok} {r : List Tok} (h : EndsT (t :: r)) (hk : t.kind = 13) : r = [] := by
  rcases h.2 with h | h
  · exact h.2
  · exact absurd hk h.1
theorem dgU_range {b : UInt8} (h : dgU b = true) : 48 ≤ b.toNat ∧ b.toNat ≤ 57 := by
  simp [dgU, dgB] at h; omega
theorem take_tw (p : UInt8 → Bool) (l : List UInt8) : l.take (l.takeWhile p).length = l.takeWhile p := by
  induction l with
  | nil => rfl
  | cons x l ih =>
    by_cases h : p x = true
    · simp [h, ih]
    · simp [h]
theorem mem_tw {p : UInt8 → Bool} {l : List UInt8} {x : UInt8} (h : x ∈ l.takeWhile p) : p x = true := by
  induction l with
  | nil => simp at h
  | cons y l ih =>
    by_cases hy : p y = true
    · simp [hy] at h
      rcases h with rfl | h
      · exact hy
      · exact ih h
    · simp [hy] at h
theorem tok_ok {b : UInt8} {r : List UInt8} (q : Nat) (hl : r.length < 20000) (h4 : wrongK (beginsK b r) (lenK (beginsK b r) r) b = 0) : TokOk ⟨beginsK b r, q, (b :: r).take (lenK (beginsK b r) r)⟩ := by
  refine ⟨by simp; omega, fun h3 => ?_⟩
  have h3 : beginsK b r = 3 := h3
  rw [h3] at h4
  simp only [h3]
  have hb : dgU b = true := by
    unfold beginsK at h3
    by_cases c1 : smU b = true
    · simp [c1] at h3
    · by_cases c2 : grU b = true
      · simp [c1, c2] at h3
      · by_cases c3 : dgU b = true
        · exact c3
        · exfalso
          simp only [c1, c2, c3, if_false, Bool.false_eq_true] at h3
          split at h3
          · omega
          · unfold markK at h3
            repeat' split at h3
            all_goals omega
  have hlen : lenK 3 r = 1 + (r.takeWhile (goesB 3)).length := by simp [lenK]
  have h9 : lenK 3 r ≤ 9 := by
    simp [wrongK] at h4
    omega
  have ht : (b :: r).take (lenK 3 r) = b :: r.takeWhile (goesB 3) := by
    rw [hlen, Nat.add_comm, List.take_succ_cons]
    rw [take_tw]
  refine ⟨by rw [ht]; simp, by simp; omega, fun x hx => ?_⟩
  rw [ht] at hx
  rcases List.mem_cons.1 hx with rfl | hx
  · exact dgU_range hb
  · have := mem_tw hx
    simp [goesB] at this
    exact dgU_range this
theorem begins_end (b : UInt8) (r : List UInt8) : beginsK b r ≠ 13 := by
  unfold beginsK markK
  repeat' split
  all_goals omega
theorem lexF_ends (n : Nat) : ∀ (a : Nat) (t : List UInt8) (l : List Tok), t.length ≤ n → n ≤ 20000 → lexF a t = .ok l → EndsT l := by
  have hlast : ∀ a, EndsT [⟨13, a, []⟩] := fun a => ⟨⟨by simp, fun h => by simp at h⟩, .inl ⟨rfl, rfl⟩⟩
  induction n with
  | zero =>
    intro a t l h hn hl
    have : t = [] := List.eq_nil_of_length_eq_zero (by omega)
    subst this
    rw [lexF_nil] at hl
    cases hl
    exact hlast _
  | succ n ih =>
    intro a t l h hn hl
    cases t with
    | nil => rw [lexF_nil] at hl; cases hl; exact hlast _
    | cons b r =>
      simp only [List.length_cons] at h
      by_cases h1 : blankB b = true
      · rw [lexF_blank h1] at hl; exact ih _ _ _ (by omega) (by omega) hl
      · have h1 : blankB b = false := by simpa using h1
        by_cases h2 : b = 37
        · subst h2
          rw [lexF_comment] at hl
          have := (List.dropWhile_sublist (fun x : UInt8 => decide (x ≠ 10)) (l := r)).length_le
          exact ih _ _ _ (by omega) (by omega) hl
        · by_cases h3 : beginsK b r = 0
          · rw [lexF_none h1 h2 h3] at hl; cases hl
          · by_cases h4 : wrongK (beginsK b r) (lenK (beginsK b r) r) b = 0
            · rw [lexF_tok h1 h2 h3 h4] at hl
              cases hx : lexF (a + lenK (beginsK b r) r) (r.drop (lenK (beginsK b r) r - 1)) with
              | error e => rw [hx] at hl; cases hl
              | ok m =>
                rw [hx] at hl; cases hl
                exact ⟨tok_ok a (by omega) h4, .inr ⟨begins_end b r, ih _ _ _ (by simp; omega) (by omega) hx⟩⟩
            · rw [lexF_wrong h1 h2 h3 h4] at hl; cases hl
theorem scan_ends {t : List UInt8} {l : List Tok} (h : scanL t = .ok l) : EndsT l := by
  unfold scanL at h
  split at h
  · cases h
  · exact lexF_ends t.length _ _ _ (Nat.le_refl _) (by omega) h
theorem dec_from (l : List UInt8) : ∀ acc, (∀ b ∈ l, 48 ≤ b.toNat ∧ b.toNat ≤ 57) → Lib.decFrom acc l = some (valF acc l) := by
  induction l with
  | nil => intro acc _; rfl
  | cons b l ih =>
    intro acc h
    have hb := h b (by simp)
    have e : Lib.digitVal b = some (b.toNat - 48) := by simp [Lib.digitVal, hb]
    simp only [Lib.decFrom, e]
    rw [ih _ (fun x hx => h x (by simp [hx]))]
    simp only [valF, List.foldl_cons, Nat.mul_comm]
theorem atoi_val {l : List UInt8} (h0 : l ≠ []) (h : ∀ b ∈ l, 48 ≤ b.toNat ∧ b.toNat ≤ 57) : Lib.atoi l = some (valL l : Int) := by
  cases l with
  | nil => exact absurd rfl h0
  | cons b r =>
    have hb := h b (by simp)
    have n1 : (b == 45) = false := by rw [beq_eq_false_iff_ne]; rintro rfl; simp at hb
    have n2 : (b == 43) = false := by rw [beq_eq_false_iff_ne]; rintro rfl; simp at hb
    simp only [Lib.atoi, n1, n2, Bool.false_eq_true, if_false]
    rw [Lib.decNat, if_neg (by simp), dec_from _ 0 h]
    rfl
end Go.Proofs.YtbjfpfnfbgncnaaGreatDoor
/- Readers in memory; what it is to give up; rows of the call's own whose elements take several cells. -/
namespace Go.Proofs.YtbjfpfnfbgncnaaGreatDoor
open Go.RowKit
set_option linter.unusedVariables false
/-- Tokens that lie in memory. -/
def TokAt (w : World) (tb off : Nat) (ts : List Tok) : Prop := tb < w.heap.size ∧ ∀ i (h : i < ts.length), w.cell? ⟨tb, off + i * 3, none⟩ = some (.int .i64 (ts[i].kind : Int)) ∧ w.cell? ⟨tb, off + i * 3 + 1, none⟩ = some (.int .i64 (ts[i].at' : Int)) ∧ w.cell? ⟨tb, off + i * 3 + 2, none⟩ = some (.string (txt ts[i].text))
theorem TokAt.kept {w w' : World} {tb off : Nat} {ts : List Tok} {S : Nat → Prop} (h : TokAt w tb off ts) (hk : Kept S w w') (hs : ¬ S tb) : TokAt w' tb off ts := by
  obtain ⟨hlt, hc⟩ := h
  refine ⟨Nat.lt_of_lt_of_le hlt hk.size, fun i hi => ?_⟩
  obtain ⟨a, b, c⟩ := hc i hi
  exact ⟨(hk.cell (p := ⟨tb, off + i * 3, none⟩) hlt hs).trans a, (hk.cell (p := ⟨tb, off + i * 3 + 1, none⟩) hlt hs).trans b, (hk.cell (p := ⟨tb, off + i * 3 + 2, none⟩) hlt hs).trans c⟩
theorem TokAt.tail {w : World} {tb off : Nat} {t : Tok} {r : List Tok} (h : TokAt w tb off (t :: r)) : TokAt w tb (off + 3) r := by
  refine ⟨h.1, fun i hi => ?_⟩
  have := h.2 (i + 1) (by simpa using hi)
  simp only [List.getElem_cons_succ] at this
  rw [show off + (i + 1) * 3 = off + 3 + i * 3 by omega] at this
  exact this
theorem TokAt.head {w : World} {tb off : Nat} {t : Tok} {r : List Tok} (h : TokAt w tb off (t :: r)) : w.cell? ⟨tb, off, none⟩ = some (.int .i64 (t.kind : Int)) ∧ w.cell? ⟨tb, off + 1, none⟩ = some (.int .i64 (t.at' : Int)) ∧ w.cell? ⟨tb, off + 2, none⟩ = some (.string (txt t.text)) := by
  have := h.2 0 (by simp)
  simpa using this
/-- A reader: its block holds what is left of the tokens, which lie in block tb. -/
def RdAt (w : World) (rb tb : Nat) (ts : List Tok) : Prop :=
  tb ≠ rb ∧ ∃ off cap, w.heap[rb]? = some (.cells #[.slice (some ⟨tb, off, none⟩) ts.length cap] 111 (0, 0)) ∧ ts.length ≤ cap ∧ cap ≤ maxLen ∧ TokAt w tb off ts
theorem RdAt.kept {w w' : World} {rb tb : Nat} {ts : List Tok} {S : Nat → Prop} (h : RdAt w rb tb ts) (hk : Kept S w w') (hr : ¬ S rb) (ht : ¬ S tb) : RdAt w' rb tb ts := by
  obtain ⟨hne, off, cap, hb, hc, hm, ha⟩ := h
  exact ⟨hne, off, cap, hk.at hb hr, hc, hm, ha.kept hk ht⟩
theorem RdAt.same {w w' : World} {rb tb : Nat} {ts : List Tok} (h : RdAt w rb tb ts) (hk : Same0 w w') : RdAt w' rb tb ts := h.kept hk (fun f => f) (fun f => f)
theorem RdAt.lt {w : World} {rb tb : Nat} {ts : List Tok} (h : RdAt w rb tb ts) : rb < w.heap.size ∧ tb < w.heap.size := by
  obtain ⟨hne, off, cap, hb, hc, hm, ha⟩ := h
  exact ⟨lt_of_at hb, ha.1⟩
/-- Given up: a Fault of that number, at that place. -/
def GaveUp (base : Nat) (w : World) (e : Ending) (c p : Nat) : Prop :=
  ∃ b, e = .panicked [{ v := .iface 83 (.pointer (some ⟨b, 0, none⟩)), recovered := false }] ∧ base ≤ b ∧ w.heap[b]? = some (.cells #[.int .i64 (c : Int), .int .i64 (p : Int), .nilIface] 86 (0, 0))
theorem GaveUp.mono {base base' : Nat} {w : World} {e : Ending} {c p : Nat} (h : GaveUp base w e c p) (hb : base' ≤ base) : GaveUp base' w e c p := by
  obtain ⟨b, e1, e2, e3⟩ := h
  exact ⟨b, e1, by omega, e3⟩
end Go.Proofs.YtbjfpfnfbgncnaaGreatDoor
/- Signatures in plain words (a list of symbols), and what it is that a block of memory is one. -/
namespace Go.Proofs.YtbjfpfnfbgncnaaGreatDoor
open Go.RowKit
structure Sym where
  name : ByteArray
  ar : Int
  df : Bool
/-- The number of the first symbol of that name. -/
def findI : List Sym → ByteArray → Option Nat
  | [], _ => none
  | x :: r, s => if x.name = s then some 0 else (findI r s).map (· + 1)
theorem findI_snoc (L : List Sym) (x : Sym) (s : ByteArray) : findI (L ++ [x]) s = match findI L s with | some i => some i | none => if x.name = s then some L.length else none := by
  induction L with
  | nil => simp [findI]
  | cons y r ih =>
    simp only [List.cons_append, findI]
    by_cases h : y.name = s
    · simp [h]
    · simp only [h, if_false, ih]
      cases hf : findI r s with
      | some i => simp
      | none => by_cases hx : x.name = s <;> simp [hx]
theorem findI_lt {L : List Sym} {s : ByteArray} {i : Nat} (h : findI L s = some i) : ∃ hi : i < L.length, L[i].name = s := by
  induction L generalizing i with
  | nil => simp [findI] at h
  | cons y r ih =>
    simp only [findI] at h
    by_cases hy : y.name = s
    · simp [hy] at h; subst h; exact ⟨by simp, by simpa using hy⟩
    · simp only [hy, if_false, Option.map_eq_some_iff] at h
      obtain ⟨j, hj, rfl⟩ := h
      obtain ⟨h1, h2⟩ := ih hj
      exact ⟨by simp; omega, by simpa using h2⟩
theorem findI_none {L : List Sym} {s : ByteArray} (h : findI L s = none) : ∀ x ∈ L, x.name ≠ s := by
  induction L with
  | nil => simp
  | cons y r ih =>
    simp only [findI] at h
    by_cases hy : y.name = s
    · simp [hy] at h
    · simp only [hy, if_false, Option.map_eq_none_iff] at h
      intro x hx
      rcases List.mem_cons.1 hx with rfl | hx
      · exact hy
      · exact ih h x hx
/-- The cells of a row of symbols. -/
def symCells (L : List Sym) : List Value := L.flatMap fun x => [.string x.name, .int .i64 x.ar, .bool x.df]
theorem symCells_length (L : List Sym) : (symCells L).length = L.length * 3 := by
  induction L with
  | nil => rfl
  | cons x r ih => simp [symCells] at ih ⊢; omega
theorem symCells_append (L M : List Sym) : symCells (L ++ M) = symCells L ++ symCells M := by simp [symCells]
theorem symCells_snoc (L : List Sym) (x : Sym) : symCells (L ++ [x]) = symCells L ++ [.string x.name, .int .i64 x.ar, .bool x.df] := by simp [symCells]
theorem symCells_at {L : List Sym} {i : Nat} (h : i < L.length) : (symCells L)[i * 3]? = some (.string L[i].name) ∧ (symCells L)[i * 3 + 1]? = some (.int .i64 L[i].ar) ∧ (symCells L)[i * 3 + 2]? = some (.bool L[i].df) := by
  induction L generalizing i with
  | nil => simp at h
  | cons x r ih =>
    have e : symCells (x :: r) = .string x.name :: .int .i64 x.ar :: .bool x.df :: symCells r := by simp [symCells]
    rw [e]
    cases i with
    | zero => simp
    | succ j =>
      have := ih (i := j) (by simpa using h)
      rw [show (j + 1) * 3 = j * 3 + 1 + 1 + 1 by omega]
      simpa using this

/-! ### the answer of Add -/
def addErr (L : List Sym) (x : Sym) : Int :=
  if nameB x.name = false then 10 else if x.ar < 0 ∨ 6 < x.ar then 11 else if (findI L x.name).isSome then 12 else if 64 ≤ L.length then 13 else 0

/-! ### closed facts of the program -/
theorem info_Symbol : (Tryz.prog.info? 95).map (fun i => (i.zero, i.size, i.bytes)) = some (some (.agg #[.string ByteArray.empty, .int .i64 0, .bool false]), 3, 32) := by kernel_rfl
theorem law_string : Maps.Keyed Tryz.prog 9 := Maps.string_keyed Tryz.underlying9
theorem zero_int (w : World) : (zeroValue 3).run Tryz.prog w = .ok (.int .i64 0) w := by kernel_rfl

/-- What the map of a signature holds. -/
def MapIs (w : World) (mr : Option Nat) (L : List Sym) : Prop :=
  match mr with
  | none => L = []
  | some bm => ∃ n D, w.ownsMap (H := Unit) Tryz.prog 9 (plainElem Tryz.prog 3) bm n D ∧ n ≤ L.length ∧
      ∀ s : ByteArray, Maps.has D (.string s.data.toList) = (findI L s).isSome ∧ ∀ i, findI L s = some i → D.atKey (.string s.data.toList) (.lit (.int .i64 0)) = .lit (.int .i64 (i : Int))
/-- Block b is a signature of these symbols. -/
structure SigAt (w : World) (b : Nat) (L : List Sym) (sv : Value) (mr : Option Nat) : Prop where
  blk : w.heap[b]? = some (.cells #[sv, .map mr] 134 (0, 0))
  row : w.ownsRow 0 95 3 sv L.length (symCells L)
  map : MapIs w mr L
  apart : sv.ownBlock ≠ some b
  len : L.length ≤ 64
  names : ∀ x ∈ L, nameB x.name = true
/-- The blocks of a signature. -/
def Foot (b : Nat) (sv : Value) (mr : Option Nat) (k : Nat) : Prop := k = b ∨ sv.ownBlock = some k ∨ mr = some k
theorem MapIs.kept {S : Nat → Prop} {w w' : World} {mr : Option Nat} {L : List Sym} (h : MapIs w mr L) (hk : Kept S w w') (hn : ∀ k, mr = some k → ¬ S k) : MapIs w' mr L := by
  cases mr with
  | none => exact h
  | some bm =>
    obtain ⟨n, D, hm, r⟩ := h
    exact ⟨n, D, hk.map hm (hn bm rfl), r⟩
theorem SigAt.kept {S : Nat → Prop} {w w' : World} {b : Nat} {L : List Sym} {sv : Value} {mr : Option Nat} (h : SigAt w b L sv mr) (hk : Kept S w w') (hn : ∀ k, Foot b sv mr k → ¬ S k) : SigAt w' b L sv mr :=
  ⟨hk.at h.blk (hn b (.inl rfl)), hk.row h.row (fun k e => hn k (.inr (.inl e))), h.map.kept hk (fun k e => hn k (.inr (.inr e))), h.apart, h.len, h.names⟩
theorem SigAt.sv {w : World} {b : Nat} {L : List Sym} {sv : Value} {mr : Option Nat} (h : SigAt w b L sv mr) : ∃ ao cap, sv = .slice ao L.length cap := by
  rcases h.row.2 with ⟨rfl, h0⟩ | ⟨g, cap, cur, rfl, _⟩
  · exact ⟨none, 0, by rw [h0]⟩
  · exact ⟨_, cap, rfl⟩
theorem sig_foot_lt {w : World} {b : Nat} {L : List Sym} {sv : Value} {mr : Option Nat} (h : SigAt w b L sv mr) : ∀ k, Foot b sv mr k → k < w.heap.size := by
  intro k hk
  rcases hk with e | e | e
  · subst e; exact lt_of_at h.blk
  · exact (h.row.lt k e).2
  · subst e
    obtain ⟨n, D, hm, _⟩ := h.map
    exact hm.lt
theorem nameB_size {s : ByteArray} (h : nameB s = true) : s.size ≤ 12 := by
  exact (of_decide_eq_true h).2.1
theorem key_str {s : ByteArray} (hs : s.size ≤ maxLen) : keyOf Tryz.prog 9 (.string s) = some (.string s.data.toList) := Go.WideMaps.keyOf_string_mk Tryz.underlying9 hs
/-- A look-up in the map of a signature. -/
theorem MapIs.look {w : World} {mr : Option Nat} {L : List Sym} (h : MapIs w mr L) {s : ByteArray} (hs : s.size ≤ maxLen) :
    (Instr.lookup 66 (.map mr) (.string s) true).run Tryz.prog w = .ok (.tuple #[.int .i64 (((findI L s).getD 0 : Nat) : Int), .bool (findI L s).isSome]) w := by
  cases mr with
  | none =>
    obtain rfl : L = [] := h
    rw [Maps.look_nil true law_string Tryz.underlying66 (zero_int w) (key_str hs)]
    simp [findI]
  | some bm =>
    obtain ⟨n, D, hm, hn, hall⟩ := h
    obtain ⟨v, ps, hrun, hv⟩ := hm.look_ok law_string Tryz.underlying66 (zero_int w) (plainElem_int Tryz.underlying3 (by decide)) (key_str hs)
    obtain ⟨a, rfl, hz, _⟩ := plainElem_int_inv Tryz.underlying3 hv
    rw [hrun, (hall s).1]
    simp only [Prod.mk.injEq] at hz
    cases hf : findI L s with
    | none =>
      have hno : Maps.has D (.string s.data.toList) = false := by rw [(hall s).1, hf]; rfl
      rw [Maps.atKey_of_not_has hno] at hz
      have := hz.1
      simp at this
      simp [← this]
    | some i =>
      rw [(hall s).2 i hf] at hz
      have := hz.1
      simp at this
      simp [← this]
abbrev symV (x : Sym) : Value := .agg #[.string x.name, .int .i64 x.ar, .bool x.df]
end Go.Proofs.YtbjfpfnfbgncnaaGreatDoor
