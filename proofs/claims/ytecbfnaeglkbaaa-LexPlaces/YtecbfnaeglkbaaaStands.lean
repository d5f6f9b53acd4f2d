/- Tokens that stand where they say, one by one; and the walk of what says nothing. -/
import Derived.Test.YtecbfnaeglkbaaaLexApart
import Derived.Test.YtecbfnaeglkbaaaLexTSame
import Derived.Test.YtecbfnaeglkbaaaLexAwake
namespace Go.Proofs.Ytecbfnaeglkbaaa
open Go.RowKit
set_option linter.unusedVariables false
theorem Stand.ne {p : Nat} {t : List UInt8} {l : List Tok} (h : Stand p t l) : l ≠ [] := by
  cases l with
  | nil => exact h.elim
  | cons x r => simp
/-- The next token of those that stand from place p on. -/
structure Next (L : List UInt8) (p : Nat) (x : Tok) (r : List Tok) : Prop where
  from' : p ≤ x.at'
  upto : x.at' + x.text.length ≤ L.length
  text : (L.drop x.at').take x.text.length = x.text
  last : x.text = [] ↔ r = []
  quiet : silentF false ((L.drop p).take (x.at' - p)) = true
  more : r ≠ [] → Stand (x.at' + x.text.length) (L.drop (x.at' + x.text.length)) r
  fin : r = [] → x.at' = L.length ∧ x.kind = 13
theorem stand_next {L : List UInt8} {p : Nat} {x : Tok} {r : List Tok} (hp : p ≤ L.length) (h : Stand p (L.drop p) (x :: r)) : Next L p x r := by
  obtain ⟨gap, text, rest, h1, h2, h3, ht, h5⟩ := h
  have hlen : (L.drop p).length = L.length - p := List.length_drop
  rw [ht] at hlen
  simp only [List.length_append] at hlen
  have hd : L.drop (p + gap.length) = text ++ rest := by rw [← List.drop_drop, ht, List.drop_left]
  have hd2 : L.drop (p + gap.length + text.length) = rest := by rw [← List.drop_drop, hd, List.drop_left]
  have hq : silentF false ((L.drop p).take (x.at' - p)) = true := by
    rw [h2, Nat.add_sub_cancel_left, ht, List.take_left]; exact h1
  have htx : (L.drop x.at').take x.text.length = x.text := by rw [h2, hd, h3, List.take_left]
  have hup : x.at' + x.text.length ≤ L.length := by rw [h2, h3]; omega
  rcases h5 with ⟨rfl, rfl, rfl, hk⟩ | ⟨h6, h7, h8⟩
  · refine ⟨by omega, hup, htx, by simp [h3], hq, fun e => absurd rfl e, fun _ => ⟨?_, hk⟩⟩
    simp only [List.length_nil] at hlen
    omega
  · have hne := h8.ne
    refine ⟨by omega, hup, htx, ⟨fun e => absurd (h3.symm.trans e) h6, fun e => absurd e hne⟩, hq, fun _ => ?_, fun e => absurd e hne⟩
    rw [h2, h3, hd2]; exact h8
theorem apartL_append (a b : List Tok) : apartL (a ++ b) = apartL a ++ apartL b := by
  induction a with
  | nil => rfl
  | cons x a ih => simp only [List.cons_append, apartL, ih, List.append_assoc]
theorem apartL_snoc {l : List Tok} {k : Nat} (h : k < l.length) : apartL (l.take (k + 1)) = apartL (l.take k) ++ l[k].text ++ [32] := by
  rw [List.take_succ_eq_append_getElem h, apartL_append]
  simp [apartL]
set_option maxRecDepth 100000 in
set_option maxHeartbeats 2000000 in
theorem silent_any (s : ByteArray) (w : World) (hs : s.size ≤ 20000) (h : silentF false s.data.toList = true) : Calls Try.prog 12 #[.string s] w fun e w' => e = .returned (.bool true) ∧ w' = w := by
  have hlen := size_list s
  have HL : Hid (s.size = s.data.toList.length) := hlen
  clear hlen
  go_enter Try.func12, Try.ntmps12
  go_wp2
  go_loop [3, 4] (fun c i => ∃ (k : Nat) (cb : Bool), k ≤ s.size ∧ i = .int .i64 (k : Int) ∧ c = .bool cb ∧ Hid (silentF cb (s.data.toList.drop k) = true)) (fun _ i => s.size - (intOf i).toNat)
  case atStart => exact ⟨0, false, Nat.zero_le _, rfl, rfl, (show silentF false (s.data.toList.drop 0) = true by simpa using h)⟩
  case round =>
    obtain ⟨k, cb, hk, rfl, rfl, hsl⟩ := hrel
    by_cases hlt : k < s.size
    · have i1 : (0 : Int) ≤ (k : Int) := by omega
      have i2 : (k : Int) < (s.size : Int) := by omega
      have hd := hsl.out
      rw [drop_at hlt] at hd
      have cB := rblank_any s[k] w
      by_cases h10 : s[k] = 10
      · have e10 : ((s[k].toNat : Int) == 10) = true := by rw [h10]; rfl
        have e37 : ((s[k].toNat : Int) == 37) = false := by rw [h10]; rfl
        have eb : blankB s[k] = true := by rw [h10]; decide
        have hn : Hid (silentF false (s.data.toList.drop (k + 1)) = true) := by
          rw [h10] at hd
          simp [silentF] at hd
          exact hd.2
        rw [eb] at cB
        clear hd hsl h10 eb
        go_wp2_with (go_at_call 19; refine cB.mono ?_; rintro e w' ⟨rfl, rfl⟩)
        go_round
        case rel => first | exact ⟨k + 1, false, by omega, by go_num, rfl, hn⟩ | (refine ⟨trivial, ?_⟩; (repeat apply Exists.intro); exact ⟨⟨k + 1, false, by omega, by go_num, rfl, hn⟩, rfl⟩)
        case measure => simp [intOf]; omega
      · have e10 : ((s[k].toNat : Int) == 10) = false := by
          rw [beq_eq_false_iff_ne]; intro e; exact h10 ((u8_eq s[k] 10 (by omega)).1 e)
        by_cases h37 : s[k] = 37
        · have e37 : ((s[k].toNat : Int) == 37) = true := by rw [h37]; rfl
          have eb : blankB s[k] = false := by rw [h37]; decide
          have hn : Hid (silentF true (s.data.toList.drop (k + 1)) = true) := by
            rw [h37] at hd
            simp [silentF] at hd
            exact hd
          rw [eb] at cB
          clear hd hsl h10 h37 eb
          go_wp2_with (go_at_call 19; refine cB.mono ?_; rintro e w' ⟨rfl, rfl⟩)
          go_round
          case rel => first | exact ⟨k + 1, true, by omega, by go_num, rfl, hn⟩ | (refine ⟨trivial, ?_⟩; (repeat apply Exists.intro); exact ⟨⟨k + 1, true, by omega, by go_num, rfl, hn⟩, rfl⟩)
          case measure => simp [intOf]; omega
        · have e37 : ((s[k].toNat : Int) == 37) = false := by
            rw [beq_eq_false_iff_ne]; intro e; exact h37 ((u8_eq s[k] 37 (by omega)).1 e)
          have hn : Hid (silentF cb (s.data.toList.drop (k + 1)) = true) ∧ ¬ (cb = false ∧ blankB s[k] = false) := by
            simp only [silentF, if_neg h10, if_neg h37] at hd
            split at hd
            · cases hd
            · rename_i hx
              exact ⟨hd, hx⟩
          obtain ⟨hn, hx⟩ := hn
          clear hd hsl h10 h37
          cases cb with
          | true =>
            cases eb : blankB s[k] <;> rw [eb] at cB <;> clear eb hx
            all_goals
              go_wp2_with (go_at_call 19; refine cB.mono ?_; rintro e w' ⟨rfl, rfl⟩)
              go_round
              case rel => first | exact ⟨k + 1, true, by omega, by go_num, rfl, hn⟩ | (refine ⟨trivial, ?_⟩; (repeat apply Exists.intro); exact ⟨⟨k + 1, true, by omega, by go_num, rfl, hn⟩, rfl⟩)
              case measure => simp [intOf]; omega
          | false =>
            have eb : blankB s[k] = true := by simpa using hx
            rw [eb] at cB
            clear eb hx
            go_wp2_with (go_at_call 19; refine cB.mono ?_; rintro e w' ⟨rfl, rfl⟩)
            go_round
            case rel => first | exact ⟨k + 1, false, by omega, by go_num, rfl, hn⟩ | (refine ⟨trivial, ?_⟩; (repeat apply Exists.intro); exact ⟨⟨k + 1, false, by omega, by go_num, rfl, hn⟩, rfl⟩)
            case measure => simp [intOf]; omega
    · have i2 : ¬ (k : Int) < (s.size : Int) := by omega
      go_wp2
      go_ret
      exact ⟨rfl, rfl⟩
end Go.Proofs.Ytecbfnaeglkbaaa
