import Derived.Test.YtbjckinehhlknaaGreatDoorM23
import Derived.Test.YtbjckinehhlknaaGreatDoorM22
import Derived.Deep.RegionLaw
import Derived.Deep.DeepCutAuto
/- The walk of the document's Scan (ref03): it answers what the plain words say. -/
namespace Go.Proofs.YtbjckinehhlknaaGreatDoor
open Go.RowKit
set_option linter.unusedVariables false
/-- The answer of the document's Scan. -/
def RTold (base : Nat) (w : World) (v lv : Value) (R : Except (Nat × Nat) (List Tok)) : Prop := match R with
  | .ok l => TRow base w v l ∧ lv = .slice none 0 0
  | .error (c, p) => v = .slice none 0 0 ∧ WrongAt w lv (c : Int) (p : Int)
theorem RTold.same {base : Nat} {w w' : World} {v lv : Value} {R : Except (Nat × Nat) (List Tok)} (h : RTold base w v lv R) (hk : Same0 w w') : RTold base w' v lv R := by
  cases R with
  | ok l => exact ⟨h.1.same hk, h.2⟩
  | error e => exact ⟨h.1, h.2.same hk⟩
set_option maxHeartbeats 1000000 in
theorem rscan_long (s : ByteArray) (w : World) (hs : s.size ≤ maxLen) (h1 : 20000 < s.size) :
    Calls Tryz.prog 95 #[.string s] w fun e w' => ∃ v lv, e = .returned (.tuple #[v, lv]) ∧ RTold w.heap.size w' v lv (scanL s.data.toList) ∧ Same0 w w' := by
  unfold maxLen at hs
  have d1 : (20000 : Int) < (s.size : Int) := by omega
  have H : Hid (scanL s.data.toList = .error (30, 0)) := by
    show _ = _
    unfold scanL
    rw [if_pos (by rw [← size_list]; exact h1)]
  go_enter Tryz.func95, Tryz.ntmps95
  go_wp2
  go_ret2
  refine ⟨_, _, rfl, ?_, Kept.alloc (Kept.refl _ w) _⟩
  rw [H.out]
  exact ⟨rfl, w.heap.size, rfl, heap_alloc_new w _⟩
/-- What holds at a round's head. -/
structure RAt (s : ByteArray) (w wr : World) (v : Value) (q : Nat) (acc : List Tok) : Prop where
  row : TRow w.heap.size wr v acc
  same : Same0 w wr
  le : q ≤ s.size
  few : acc.length ≤ q
  eq : lexF 0 s.data.toList = pre acc (lexF q (s.data.toList.drop q))
theorem RAt.start (s : ByteArray) (w : World) : RAt s w w (.slice none 0 0) 0 [] :=
  ⟨TRow.nil _ _, Kept.refl _ w, Nat.zero_le _, by simp, by rw [pre_nil, List.drop_zero]⟩
theorem RAt.blank {s : ByteArray} {w wr : World} {v : Value} {q : Nat} {acc : List Tok} (h : RAt s w wr v q acc) (hq : q < s.size) (hb : blankB s[q] = true) : RAt s w wr v (q + 1) acc := by
  refine ⟨h.row, h.same, hq, by have := h.few; omega, ?_⟩
  rw [h.eq, drop_at hq, lexF_blank hb]; rfl
/-- A comment from q up to p. -/
def Com (s : ByteArray) (q p : Nat) : Prop := q ≤ p ∧ p ≤ s.size ∧ ∀ j, q ≤ j → j < p → ∀ h : j < s.size, s[j] ≠ 10
theorem RAt.comment {s : ByteArray} {w wr : World} {v : Value} {q p : Nat} {acc : List Tok} (h : RAt s w wr v q acc) (hq : q < s.size) (hb : s[q] = 37) (hc : Com s q p) (he : ∀ hp : p < s.size, s[p] = 10) : RAt s w wr v p acc ∧ q < p := by
  obtain ⟨h1, h2, h3⟩ := hc
  have hlt : q < p := by
    by_cases e : q = p
    · subst e; have := he hq; rw [hb] at this; exact absurd this (by decide)
    · omega
  refine ⟨⟨h.row, h.same, h2, by have := h.few; omega, ?_⟩, hlt⟩
  have hl := rst_len s q
  have htl : ((rst s q).takeWhile (fun x : UInt8 => decide (x ≠ 10))).length = p - (q + 1) := by
    refine takeWhile_len (by omega) ?_ ?_
    · intro j hj hjp
      rw [rst_get (by omega) hj]
      have := h3 (q + 1 + j) (by omega) (by omega) (by omega)
      simpa using this
    · intro hj
      rw [rst_get (by omega) hj]
      have e : q + 1 + (p - (q + 1)) = p := by omega
      simp only [e]
      have := he (by omega)
      simpa using this
  rw [h.eq, drop_at hq, hb, lexF_comment, htl]
  congr 2
  · omega
  · conv => lhs; rw [← List.drop_left (l₁ := (rst s q).takeWhile (fun x : UInt8 => decide (x ≠ 10))) (l₂ := (rst s q).dropWhile (fun x : UInt8 => decide (x ≠ 10))), List.takeWhile_append_dropWhile, htl]
    rw [rst, List.drop_drop]
    congr 1; omega
theorem RAt.none {s : ByteArray} {w wr : World} {v : Value} {q : Nat} {acc : List Tok} (h : RAt s w wr v q acc) (hq : q < s.size) (h1 : blankB s[q] = false) (h2 : s[q] ≠ 37) (hk : beginsK s[q] (rst s q) = 0) : lexF 0 s.data.toList = .error (31, q) := by
  rw [h.eq, drop_at hq, lexF_none h1 h2 hk, pre_error]
theorem RAt.wrong {s : ByteArray} {w wr : World} {v : Value} {q k n : Nat} {acc : List Tok} (h : RAt s w wr v q acc) (hq : q < s.size) (h1 : blankB s[q] = false) (h2 : s[q] ≠ 37) (hk : beginsK s[q] (rst s q) = k) (hk0 : k ≠ 0) (hn : lenK k (rst s q) = n) {c : Nat} (hw : wrongK k n s[q] = c) (hc : c ≠ 0) : lexF 0 s.data.toList = .error (c, q) := by
  subst hk hn hw
  rw [h.eq, drop_at hq, lexF_wrong h1 h2 hk0 hc, pre_error]
theorem RAt.tok {s : ByteArray} {w wr : World} {v : Value} {q k n : Nat} {acc : List Tok} (h : RAt s w wr v q acc) (hq : q < s.size) (h1 : blankB s[q] = false) (h2 : s[q] ≠ 37) (hk : beginsK s[q] (rst s q) = k) (hk0 : k ≠ 0) (hn : lenK k (rst s q) = n) (hw : wrongK k n s[q] = 0) :
    ∃ x : Tok, tokV x = [.int .i64 (k : Int), .int .i64 (q : Int), .string (s.extract q (q + n))] ∧ lexF 0 s.data.toList = pre (acc ++ [x]) (lexF (q + n) (s.data.toList.drop (q + n))) := by
  subst hk hn
  have hpos := lenK_pos (beginsK s[q] (rst s q)) (rst s q)
  refine ⟨⟨beginsK s[q] (rst s q), q, (s[q] :: rst s q).take (lenK (beginsK s[q] (rst s q)) (rst s q))⟩, ?_, ?_⟩
  · simp only [tokV]
    rw [← txt_of (s := s.extract q (q + lenK (beginsK s[q] (rst s q)) (rst s q)))]
    rw [← drop_at hq]
    simp
  · rw [h.eq, drop_at hq, lexF_tok h1 h2 hk0 hw, pre_map]
    have e : (rst s q).drop (lenK (beginsK s[q] (rst s q)) (rst s q) - 1) = s.data.toList.drop (q + lenK (beginsK s[q] (rst s q)) (rst s q)) := by
      have e2 : q + 1 + (lenK (beginsK s[q] (rst s q)) (rst s q) - 1) = q + lenK (beginsK s[q] (rst s q)) (rst s q) := by omega
      conv => lhs; arg 2; rw [rst]
      rw [List.drop_drop, e2]
    rw [e]
theorem tok_le {s : ByteArray} {q k n : Nat} (hq : q < s.size) (hk : beginsK s[q] (rst s q) = k) (hn : lenK k (rst s q) = n) : 1 ≤ n ∧ q + n ≤ s.size := by
  subst hk hn
  have := lenK_le (b := s[q]) (r := rst s q)
  have := lenK_pos (beginsK s[q] (rst s q)) (rst s q)
  rw [rst_len] at *
  omega
theorem Com.start {s : ByteArray} {q : Nat} (h : q ≤ s.size) : Com s q q := ⟨Nat.le_refl _, h, fun j h1 h2 => by omega⟩
theorem Com.next {s : ByteArray} {q p : Nat} (h : Com s q p) (hp : p < s.size) (hn : s[p] ≠ 10) : Com s q (p + 1) := by
  refine ⟨by have := h.1; omega, hp, fun j h1 h2 hj => ?_⟩
  by_cases e : j = p
  · subst e; exact hn
  · exact h.2.2 j h1 (by omega) hj
set_option maxRecDepth 100000 in
set_option maxHeartbeats 4000000 in
theorem rscan_short (s : ByteArray) (w : World) (hs : s.size ≤ 20000) :
    Calls Tryz.prog 95 #[.string s] w fun e w' => ∃ v lv, e = .returned (.tuple #[v, lv]) ∧ RTold w.heap.size w' v lv (scanL s.data.toList) ∧ Same0 w w' := by
  have d1 : ((20000 : Int) < (s.size : Int)) = False := by simp; omega
  have H : Hid (scanL s.data.toList = lexF 0 s.data.toList) := by
    show _ = _
    unfold scanL
    rw [if_neg (by rw [← size_list]; omega)]
  go_enter Tryz.func95, Tryz.ntmps95
  go_wp2
  go_loopw [4, 5] (fun v a wr => ∃ (q : Nat) (acc : List Tok), a = .int .i64 (q : Int) ∧ RAt s w wr v q acc) (fun _ a _ => s.size - (intOf a).toNat)
  case atStart => exact ⟨0, [], rfl, RAt.start s w⟩
  case round =>
    obtain ⟨q, acc, rfl, hA⟩ := hrel
    by_cases hq : q < s.size
    · have i1 : (0 : Int) ≤ (q : Int) := by omega
      have i2 : (q : Int) < (s.size : Int) := by omega
      have cB := rblank_any s[q] wr
      cases hb : blankB s[q] with
      | true =>
        rw [hb] at cB
        have hN := hA.blank hq hb
        clear hb
        go_wp2_with (go_at_call 131; refine cB.mono ?_; rintro e w' ⟨rfl, rfl⟩)
        go_roundw
        case rel => exact ⟨q + 1, acc, by go_num, hN⟩
        case measure => simp [intOf]; omega
      | false =>
        rw [hb] at cB
        by_cases h37 : s[q] = 37
        · have e37 : ((s[q].toNat : Int) == 37) = true := by rw [h37]; rfl
          have HC : Hid (∀ p, Com s q p → (∀ hp : p < s.size, s[p] = 10) → RAt s w wr u4 p acc ∧ q < p) := fun p h1 h2 => hA.comment hq h37 h1 h2
          clear hb h37 hA
          go_wp2_with (go_at_call 131; refine cB.mono ?_; rintro e w' ⟨rfl, rfl⟩)
          go_loop [5] (fun a => ∃ p : Nat, a = .int .i64 (p : Int) ∧ Hid (Com s q p)) (fun a => s.size - (intOf a).toNat)
          case atStart => exact ⟨q, rfl, Com.start (by omega)⟩
          case round =>
            obtain ⟨p, rfl, hc⟩ := hrel
            have hp2 := hc.out.2.1
            have hp1 := hc.out.1
            by_cases hp : p < s.size
            · have j1 : (0 : Int) ≤ (p : Int) := by omega
              have j2 : (p : Int) < (s.size : Int) := by omega
              by_cases h10 : s[p] = 10
              · have e10 : ((s[p].toNat : Int) == 10) = true := by rw [h10]; rfl
                obtain ⟨hN, hlt⟩ := HC.out p hc.out (fun _ => h10)
                clear HC hc h10
                go_wp2
                go_roundw
                case rel => exact ⟨p, acc, rfl, hN⟩
                case measure => simp [intOf]; omega
              · have e10 : ((s[p].toNat : Int) == 10) = false := by
                  rw [beq_eq_false_iff_ne]; intro e; exact h10 ((u8_eq s[p] 10 (by omega)).1 e)
                have hc2 : Hid (Com s q (p + 1)) := hc.out.next hp h10
                clear HC hc h10
                go_wp2
                go_round
                case rel => exact ⟨p + 1, by go_num, hc2⟩
                case measure => simp [intOf]; omega
            · have j2 : ¬ (p : Int) < (s.size : Int) := by omega
              have j3 : decide ((p : Int) < (s.size : Int)) = false := by simpa using j2
              obtain ⟨hN, hlt⟩ := HC.out p hc.out (fun h => absurd h hp)
              clear HC hc
              go_wp2
              go_roundw
              case rel => exact ⟨p, acc, rfl, hN⟩
              case measure => simp [intOf]; omega
        · have e37 : ((s[q].toNat : Int) == 37) = false := by
            rw [beq_eq_false_iff_ne]; intro e; exact h37 ((u8_eq s[q] 37 (by omega)).1 e)
          obtain ⟨k, hk⟩ : ∃ k, beginsK s[q] (rst s q) = k := ⟨_, rfl⟩
          obtain ⟨n, hn⟩ : ∃ n, lenK k (rst s q) = n := ⟨_, rfl⟩
          have cK := rbegins_any s q wr hs hq
          have cL := rlength_any s q k wr hs hq
          rw [hk] at cK
          rw [hn] at cL
          obtain ⟨hn1, hn2⟩ := tok_le hq hk hn
          have hrow := hA.row
          have hsm := hA.same
          have hbs := hsm.size
          have hfew := hA.few
          have hlen : acc.length ≤ 100000 := by omega
          by_cases hk0 : k = 0
          · have HE : Hid (lexF 0 s.data.toList = .error (31, q)) := hA.none hq hb h37 (by rw [hk, hk0])
            subst hk0
            clear hk hn hA hb h37 cL
            go_wp2_with (first | (go_at_call 131; refine cB.mono ?_; rintro e w' ⟨rfl, rfl⟩) | (go_at_call 132; refine cK.mono ?_; rintro e w' ⟨rfl, rfl⟩) | (go_at_call 133; refine cL.mono ?_; rintro e w' ⟨rfl, rfl⟩))
            go_ret2
            refine ⟨_, _, rfl, ?_, Kept.alloc hsm _⟩
            rw [H.out, HE.out]
            exact ⟨rfl, _, rfl, heap_alloc_new _ _⟩
          · have hW : ∀ {c : Nat}, wrongK k n s[q] = c → c ≠ 0 → lexF 0 s.data.toList = .error (c, q) := fun h1 h2 => hA.wrong hq hb h37 hk hk0 hn h1 h2
            have hT := fun hw => hA.tok hq hb h37 hk hk0 hn hw
            have k0 : ((k : Int) == 0) = false := by rw [beq_eq_false_iff_ne]; omega
            clear hA hb h37 hn hk
            by_cases hk1 : k = 1
            · subst hk1
              by_cases h12 : 12 < n
              · have hw : wrongK 1 n s[q] = 32 := by unfold wrongK; rw [if_pos ⟨by simp, h12⟩]
                have i12 : (12 : Int) < (n : Int) := by omega
                have HE : Hid (lexF 0 s.data.toList = .error (32, q)) := hW hw (by decide)
                clear hT hW hw
                go_wp2_with (first | (go_at_call 131; refine cB.mono ?_; rintro e w' ⟨rfl, rfl⟩) | (go_at_call 132; refine cK.mono ?_; rintro e w' ⟨rfl, rfl⟩) | (go_at_call 133; refine cL.mono ?_; rintro e w' ⟨rfl, rfl⟩))
                go_ret2
                refine ⟨_, _, rfl, ?_, Kept.alloc hsm _⟩
                rw [H.out, HE.out]
                exact ⟨rfl, _, rfl, heap_alloc_new _ _⟩
              · have hw : wrongK 1 n s[q] = 0 := by unfold wrongK; rw [if_neg (by omega), if_neg (by omega)]
                have i12 : ((12 : Int) < (n : Int)) = False := by simp; omega
                obtain ⟨x, hx, hE⟩ := hT hw
                have HX : Hid (tokV x = [.int .i64 1, .int .i64 (q : Int), .string (s.extract q (q + n))]) := hx
                have HE : Hid (lexF 0 s.data.toList = pre (acc ++ [x]) (lexF (q + n) (s.data.toList.drop (q + n)))) := hE
                clear hx hE hT hw hW
                go_wp2_with (first | (go_at_call 131; refine cB.mono ?_; rintro e w' ⟨rfl, rfl⟩) | (go_at_call 132; refine cK.mono ?_; rintro e w' ⟨rfl, rfl⟩) | (go_at_call 133; refine cL.mono ?_; rintro e w' ⟨rfl, rfl⟩) | (at_builtin; refine wpList_tok rfl _ _ rfl w.heap.size acc _ rfl hrow 1 (q : Int) (s.extract q (q + n)) x HX.out rfl hbs hlen ?_; intro g gcap w4 hr4 hk4 hat4))
                have hN : RAt s w w4 (.slice (some ⟨g, 0, none⟩) (acc.length + 1) gcap) (q + n) (acc ++ [x]) := ⟨hr4, hsm.trans hk4 (fun i hi e => by have := (hrow.own e).1; omega), hn2, by simp; omega, HE.out⟩
                go_roundw
                case rel => exact ⟨q + n, acc ++ [x], by go_num, hN⟩
                case measure => simp [intOf]; omega
            · by_cases hk2 : k = 2
              · subst hk2
                by_cases h12 : 12 < n
                · have hw : wrongK 2 n s[q] = 32 := by unfold wrongK; rw [if_pos ⟨by simp, h12⟩]
                  have i12 : (12 : Int) < (n : Int) := by omega
                  have HE : Hid (lexF 0 s.data.toList = .error (32, q)) := hW hw (by decide)
                  clear hT hW hw
                  go_wp2_with (first | (go_at_call 131; refine cB.mono ?_; rintro e w' ⟨rfl, rfl⟩) | (go_at_call 132; refine cK.mono ?_; rintro e w' ⟨rfl, rfl⟩) | (go_at_call 133; refine cL.mono ?_; rintro e w' ⟨rfl, rfl⟩))
                  go_ret2
                  refine ⟨_, _, rfl, ?_, Kept.alloc hsm _⟩
                  rw [H.out, HE.out]
                  exact ⟨rfl, _, rfl, heap_alloc_new _ _⟩
                · have hw : wrongK 2 n s[q] = 0 := by unfold wrongK; rw [if_neg (by omega), if_neg (by omega)]
                  have i12 : ((12 : Int) < (n : Int)) = False := by simp; omega
                  obtain ⟨x, hx, hE⟩ := hT hw
                  have HX : Hid (tokV x = [.int .i64 2, .int .i64 (q : Int), .string (s.extract q (q + n))]) := hx
                  have HE : Hid (lexF 0 s.data.toList = pre (acc ++ [x]) (lexF (q + n) (s.data.toList.drop (q + n)))) := hE
                  clear hx hE hT hw hW
                  go_wp2_with (first | (go_at_call 131; refine cB.mono ?_; rintro e w' ⟨rfl, rfl⟩) | (go_at_call 132; refine cK.mono ?_; rintro e w' ⟨rfl, rfl⟩) | (go_at_call 133; refine cL.mono ?_; rintro e w' ⟨rfl, rfl⟩) | (at_builtin; refine wpList_tok rfl _ _ rfl w.heap.size acc _ rfl hrow 2 (q : Int) (s.extract q (q + n)) x HX.out rfl hbs hlen ?_; intro g gcap w4 hr4 hk4 hat4))
                  have hN : RAt s w w4 (.slice (some ⟨g, 0, none⟩) (acc.length + 1) gcap) (q + n) (acc ++ [x]) := ⟨hr4, hsm.trans hk4 (fun i hi e => by have := (hrow.own e).1; omega), hn2, by simp; omega, HE.out⟩
                  go_roundw
                  case rel => exact ⟨q + n, acc ++ [x], by go_num, hN⟩
                  case measure => simp [intOf]; omega
              · by_cases hk3 : k = 3
                · subst hk3
                  by_cases h9 : 9 < n
                  · have hw : wrongK 3 n s[q] = 33 := by unfold wrongK; rw [if_neg (by omega), if_pos ⟨rfl, .inl h9⟩]
                    have i9 : (9 : Int) < (n : Int) := by omega
                    have HE : Hid (lexF 0 s.data.toList = .error (33, q)) := hW hw (by decide)
                    clear hT hW hw
                    go_wp2_with (first | (go_at_call 131; refine cB.mono ?_; rintro e w' ⟨rfl, rfl⟩) | (go_at_call 132; refine cK.mono ?_; rintro e w' ⟨rfl, rfl⟩) | (go_at_call 133; refine cL.mono ?_; rintro e w' ⟨rfl, rfl⟩))
                    go_ret2
                    refine ⟨_, _, rfl, ?_, Kept.alloc hsm _⟩
                    rw [H.out, HE.out]
                    exact ⟨rfl, _, rfl, heap_alloc_new _ _⟩
                  · have i9 : ((9 : Int) < (n : Int)) = False := by simp; omega
                    by_cases h1 : 1 < n
                    · have g1 : (1 : Int) < (n : Int) := by omega
                      by_cases h48 : s[q] = 48
                      · have hw : wrongK 3 n s[q] = 33 := by unfold wrongK; rw [if_neg (by omega), if_pos ⟨rfl, .inr ⟨h1, h48⟩⟩]
                        have e48 : ((s[q].toNat : Int) == 48) = true := by rw [h48]; rfl
                        clear h48
                        have HE : Hid (lexF 0 s.data.toList = .error (33, q)) := hW hw (by decide)
                        clear hT hW hw
                        go_wp2_with (first | (go_at_call 131; refine cB.mono ?_; rintro e w' ⟨rfl, rfl⟩) | (go_at_call 132; refine cK.mono ?_; rintro e w' ⟨rfl, rfl⟩) | (go_at_call 133; refine cL.mono ?_; rintro e w' ⟨rfl, rfl⟩))
                        go_ret2
                        refine ⟨_, _, rfl, ?_, Kept.alloc hsm _⟩
                        rw [H.out, HE.out]
                        exact ⟨rfl, _, rfl, heap_alloc_new _ _⟩
                      · have hw : wrongK 3 n s[q] = 0 := by unfold wrongK; rw [if_neg (by omega), if_neg (fun x => x.2.elim h9 (fun y => h48 y.2))]
                        have e48 : ((s[q].toNat : Int) == 48) = false := by
                          rw [beq_eq_false_iff_ne]; intro e; exact h48 ((u8_eq s[q] 48 (by omega)).1 e)
                        clear h48
                        obtain ⟨x, hx, hE⟩ := hT hw
                        have HX : Hid (tokV x = [.int .i64 3, .int .i64 (q : Int), .string (s.extract q (q + n))]) := hx
                        have HE : Hid (lexF 0 s.data.toList = pre (acc ++ [x]) (lexF (q + n) (s.data.toList.drop (q + n)))) := hE
                        clear hx hE hT hw hW
                        go_wp2_with (first | (go_at_call 131; refine cB.mono ?_; rintro e w' ⟨rfl, rfl⟩) | (go_at_call 132; refine cK.mono ?_; rintro e w' ⟨rfl, rfl⟩) | (go_at_call 133; refine cL.mono ?_; rintro e w' ⟨rfl, rfl⟩) | (at_builtin; refine wpList_tok rfl _ _ rfl w.heap.size acc _ rfl hrow 3 (q : Int) (s.extract q (q + n)) x HX.out rfl hbs hlen ?_; intro g gcap w4 hr4 hk4 hat4))
                        have hN : RAt s w w4 (.slice (some ⟨g, 0, none⟩) (acc.length + 1) gcap) (q + n) (acc ++ [x]) := ⟨hr4, hsm.trans hk4 (fun i hi e => by have := (hrow.own e).1; omega), hn2, by simp; omega, HE.out⟩
                        go_roundw
                        case rel => exact ⟨q + n, acc ++ [x], by go_num, hN⟩
                        case measure => simp [intOf]; omega
                    · have g1 : ((1 : Int) < (n : Int)) = False := by simp; omega
                      have hw : wrongK 3 n s[q] = 0 := by unfold wrongK; rw [if_neg (by omega), if_neg (by omega)]
                      obtain ⟨x, hx, hE⟩ := hT hw
                      have HX : Hid (tokV x = [.int .i64 3, .int .i64 (q : Int), .string (s.extract q (q + n))]) := hx
                      have HE : Hid (lexF 0 s.data.toList = pre (acc ++ [x]) (lexF (q + n) (s.data.toList.drop (q + n)))) := hE
                      clear hx hE hT hw hW
                      go_wp2_with (first | (go_at_call 131; refine cB.mono ?_; rintro e w' ⟨rfl, rfl⟩) | (go_at_call 132; refine cK.mono ?_; rintro e w' ⟨rfl, rfl⟩) | (go_at_call 133; refine cL.mono ?_; rintro e w' ⟨rfl, rfl⟩) | (at_builtin; refine wpList_tok rfl _ _ rfl w.heap.size acc _ rfl hrow 3 (q : Int) (s.extract q (q + n)) x HX.out rfl hbs hlen ?_; intro g gcap w4 hr4 hk4 hat4))
                      have hN : RAt s w w4 (.slice (some ⟨g, 0, none⟩) (acc.length + 1) gcap) (q + n) (acc ++ [x]) := ⟨hr4, hsm.trans hk4 (fun i hi e => by have := (hrow.own e).1; omega), hn2, by simp; omega, HE.out⟩
                      go_roundw
                      case rel => exact ⟨q + n, acc ++ [x], by go_num, hN⟩
                      case measure => simp [intOf]; omega
                · have k1 : ((k : Int) == 1) = false := by rw [beq_eq_false_iff_ne]; omega
                  have k2 : ((k : Int) == 2) = false := by rw [beq_eq_false_iff_ne]; omega
                  have k3 : ((k : Int) == 3) = false := by rw [beq_eq_false_iff_ne]; omega
                  have hw : wrongK k n s[q] = 0 := by unfold wrongK; rw [if_neg (by omega), if_neg (by omega)]
                  obtain ⟨x, hx, hE⟩ := hT hw
                  have HX : Hid (tokV x = [.int .i64 (k : Int), .int .i64 (q : Int), .string (s.extract q (q + n))]) := hx
                  have HE : Hid (lexF 0 s.data.toList = pre (acc ++ [x]) (lexF (q + n) (s.data.toList.drop (q + n)))) := hE
                  clear hx hE hT hw hW
                  go_wp2_with (first | (go_at_call 131; refine cB.mono ?_; rintro e w' ⟨rfl, rfl⟩) | (go_at_call 132; refine cK.mono ?_; rintro e w' ⟨rfl, rfl⟩) | (go_at_call 133; refine cL.mono ?_; rintro e w' ⟨rfl, rfl⟩) | (at_builtin; refine wpList_tok rfl _ _ rfl w.heap.size acc _ rfl hrow (k : Int) (q : Int) (s.extract q (q + n)) x HX.out rfl hbs hlen ?_; intro g gcap w4 hr4 hk4 hat4))
                  have hN : RAt s w w4 (.slice (some ⟨g, 0, none⟩) (acc.length + 1) gcap) (q + n) (acc ++ [x]) := ⟨hr4, hsm.trans hk4 (fun i hi e => by have := (hrow.own e).1; omega), hn2, by simp; omega, HE.out⟩
                  go_roundw
                  case rel => exact ⟨q + n, acc ++ [x], by go_num, hN⟩
                  case measure => simp [intOf]; omega
    · have i2 : ¬ (q : Int) < (s.size : Int) := by omega
      obtain rfl : q = s.size := by have := hA.le; omega
      have hE : lexF 0 s.data.toList = .ok (acc ++ [⟨13, s.size, []⟩]) := by
        rw [hA.eq, List.drop_of_length_le (by rw [← size_list]; exact Nat.le_refl _), lexF_nil, pre_ok]
      have HE : Hid (lexF 0 s.data.toList = .ok (acc ++ [⟨13, s.size, []⟩])) := hE
      have hbs := hA.same.size
      have hlen : acc.length ≤ 100000 := by have := hA.few; omega
      have hrow := hA.row
      have hsm := hA.same
      clear hE hA
      go_wp2_with (first | (at_builtin; refine wpList_tok rfl _ _ rfl w.heap.size acc _ rfl hrow 13 (s.size : Int) ⟨#[]⟩ ⟨13, s.size, []⟩ rfl rfl hbs hlen ?_; intro g gcap w4 hr4 hk4 hat4))
      go_ret2
      refine ⟨_, _, rfl, ?_, hsm.trans hk4 (fun i hi e => by have := (hrow.own e).1; omega)⟩
      rw [H.out, HE.out]
      exact ⟨hr4, rfl⟩
theorem rscan_any (s : ByteArray) (w : World) (hs : s.size ≤ maxLen) :
    Calls Tryz.prog 95 #[.string s] w fun e w' => ∃ v lv, e = .returned (.tuple #[v, lv]) ∧ RTold w.heap.size w' v lv (scanL s.data.toList) ∧ Same0 w w' := by
  by_cases h : 20000 < s.size
  · exact rscan_long s w hs h
  · exact rscan_short s w (by omega)
end Go.Proofs.YtbjckinehhlknaaGreatDoor
/- The walk of the document's Same: of two rows of the same tokens; how many tokens a text has. -/
namespace Go.Proofs.YtbjckinehhlknaaGreatDoor
open Go.RowKit
set_option linter.unusedVariables false
theorem lexF_len (n : Nat) : ∀ (a : Nat) (t : List UInt8) (l : List Tok), t.length ≤ n → lexF a t = .ok l → l.length ≤ t.length + 1 := by
  induction n with
  | zero =>
    intro a t l h hl
    have : t = [] := List.eq_nil_of_length_eq_zero (by omega)
    subst this
    rw [lexF_nil] at hl
    cases hl
    simp
  | succ n ih =>
    intro a t l h hl
    cases t with
    | nil => rw [lexF_nil] at hl; cases hl; simp
    | cons b r =>
      simp only [List.length_cons] at h ⊢
      by_cases h1 : blankB b = true
      · rw [lexF_blank h1] at hl; have := ih _ _ _ (by omega) hl; omega
      · have h1 : blankB b = false := by simpa using h1
        by_cases h2 : b = 37
        · subst h2
          rw [lexF_comment] at hl
          have := (List.dropWhile_sublist (fun x : UInt8 => decide (x ≠ 10)) (l := r)).length_le
          have := ih _ _ _ (by omega) hl
          omega
        · by_cases h3 : beginsK b r = 0
          · rw [lexF_none h1 h2 h3] at hl; cases hl
          · by_cases h4 : wrongK (beginsK b r) (lenK (beginsK b r) r) b = 0
            · rw [lexF_tok h1 h2 h3 h4] at hl
              cases hx : lexF (a + lenK (beginsK b r) r) (r.drop (lenK (beginsK b r) r - 1)) with
              | error e => rw [hx] at hl; cases hl
              | ok m =>
                rw [hx] at hl
                cases hl
                have := ih _ _ _ (by simp; omega) hx
                simp at this ⊢
                omega
            · rw [lexF_wrong h1 h2 h3 h4] at hl; cases hl
theorem scanL_len {t : List UInt8} {l : List Tok} (h : scanL t = .ok l) : l.length ≤ 20001 := by
  unfold scanL at h
  split at h
  · cases h
  · have := lexF_len _ _ _ _ (Nat.le_refl _) h
    omega
end Go.Proofs.YtbjckinehhlknaaGreatDoor
