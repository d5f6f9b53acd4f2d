/- The walk of LexScans: any text, another one between, by the document's answer. -/
import Derived.Test.YtecbfnaeglkbaaaLexTSame
import Derived.Test.YtecbfnaeglkbaaaLexAwake
namespace Go.Proofs.Ytecbfnaeglkbaaa
open Go.RowKit
set_option linter.unusedVariables false
/-- A row of tokens that holds whatever. -/
def Owned (base : Nat) (w : World) (v : Value) (n : Nat) : Prop := ∃ xs, w.ownsRow base 40 3 v n xs
theorem TRow.owned {base : Nat} {w : World} {v : Value} {l : List Tok} (h : TRow base w v l) : Owned base w v l.length := ⟨_, h⟩
theorem Owned.drewN {base : Nat} {w : World} {v : Value} {n : Nat} (h : Owned base w v n) (m : Nat) : Owned base (w.drewN m) v n := by
  obtain ⟨xs, hx⟩ := h
  exact ⟨xs, Kept.row ((Kept.refl (fun _ => False) w).drewN m) hx (fun _ _ f => f)⟩
theorem Owned.kept {base : Nat} {w w' : World} {v : Value} {n : Nat} {S : Nat → Prop} (h : Owned base w v n) (hk : Kept S w w') (hs : ∀ k, v.ownBlock = some k → ¬ S k) : Owned base w' v n := by
  obtain ⟨xs, hx⟩ := h
  exact ⟨xs, hk.row hx hs⟩
/-- Three cells of it, and the row behind three stores. -/
theorem Owned.store {base : Nat} {w : World} {ao : Option Addr} {n cap k : Nat} (h : Owned base w (.slice ao n cap) n) (hk : k < n) :
    ∃ g, ao = some ⟨g, 0, none⟩ ∧ base ≤ g ∧ (∃ u, w.cell? ⟨g, k * 3, none⟩ = some u) ∧ (∃ u, w.cell? ⟨g, k * 3 + 1, none⟩ = some u) ∧ (∃ u, w.cell? ⟨g, k * 3 + 2, none⟩ = some u) ∧ (∀ o, w.frozen? ⟨g, o, none⟩ = false) ∧
      ∀ a b c, Owned base (((w.setCell ⟨g, k * 3, none⟩ a).setCell ⟨g, k * 3 + 1, none⟩ b).setCell ⟨g, k * 3 + 2, none⟩ c) (.slice ao n cap) n := by
  obtain ⟨xs, hl, h⟩ := h
  rcases h with ⟨h0, h1⟩ | ⟨g, cap', cur, hv, hb, hg, hn, hm, hsz, ht⟩
  · omega
  · obtain ⟨rfl, _, rfl⟩ : ao = some ⟨g, 0, none⟩ ∧ n = n ∧ cap = cap' := by simpa using hv
    have hc : ∀ o, o < cap * 3 → ∃ u, w.cell? ⟨g, o, none⟩ = some u := fun o ho => by
      rw [cellAt hg]
      exact ⟨_, Array.getElem?_eq_getElem (by omega)⟩
    refine ⟨g, rfl, hb, hc _ (by omega), hc _ (by omega), hc _ (by omega), frozenAt hg, fun a b c => ?_⟩
    have h1 := setAt hg (k * 3) a
    have h2 := setAt h1 (k * 3 + 1) b
    have h3 := setAt h2 (k * 3 + 2) c
    refine ⟨_, ?_, .inr ⟨g, cap, _, rfl, hb, h3, hn, hm, by simp [hsz], rfl⟩⟩
    simp
    omega
/-- The error of an answer is what the document says, also when the answer's tokens were written over. -/
theorem same_of {base : Nat} {w wz : World} {v v' er lv : Value} {R : Except (Nat × Nat) (List Tok)} {base' : Nat} (h : Told base w v er R) (h' : RTold base' w v' lv R) (hk : Kept (fun j => v.ownBlock = some j) w wz) {wy : World} (hy : Same0 wz wy) :
    Calls Try.prog 10 #[er, lv] wy fun e w' => e = .returned (.bool true) ∧ Same0 wy w' := by
  cases R with
  | ok l =>
    obtain ⟨_, rfl⟩ := h
    obtain ⟨_, rfl⟩ := h'
    refine (same_none wy).mono ?_
    rintro e w' ⟨rfl, rfl⟩
    exact ⟨rfl, Kept.refl _ _⟩
  | error e =>
    obtain ⟨rfl, h2⟩ := h
    have hs : Same0 w wy := Same0.trans' (Kept.mono hk (fun i _ e => by simp [Value.ownBlock] at e)) hy
    exact same_fault (h2.same hs) (h'.2.same hs)
/-- append of one token to a row that holds whatever. -/
theorem wpList_any {w0 : World} {ops : Array Oper} {rest : List Oper} {o : Oper} {a : Act} {Q : Exit → Act → World → Prop} (hgd : o.guard = none) (s x : Operand)
    (ho : o.op = .call { callee := .builtin .append, args := #[s, x], argTypes := #[25, 25] })
    (base n : Nat) (xs : List Value) (v : Value) (hs : a.eval s = v) (hr : w0.ownsRow base 40 3 v n xs) (kz az : Int) (sz : ByteArray) (hx : a.eval x = .slice (some ⟨w0.heap.size, 0, none⟩) 1 1) (hb : base ≤ w0.heap.size) (hsz : n ≤ 100000)
    (h : ∀ g cap w', w'.ownsRow base 40 3 (.slice (some ⟨g, 0, none⟩) (n + 1) cap) (n + 1) (xs ++ [.int .i64 kz, .int .i64 az, .string sz]) → Kept (fun k => v.ownBlock = some k) w0 w' → (v.ownBlock = some g ∨ w0.heap.size ≤ g) → wpList Try.prog ops Q rest (a.put o.dst (.slice (some ⟨g, 0, none⟩) (n + 1) cap)) w') :
    wpList Try.prog ops Q (o :: rest) a (w0.alloc (.cells #[.int .i64 kz, .int .i64 az, .string sz] 40)) := by
  obtain ⟨i, hi, hz0, hz1, hz2⟩ := info_parts info_Token
  refine wpList_append_lies _ hgd s x 25 ho base 40 i _ 3 32 Try.underlying25 hi hz0 hz1 hz2 rfl (by decide) v n xs hs (World.ownsRow.alloc hr _) ⟨w0.heap.size, 0, none⟩ 1 1 [.int .i64 kz, .int .i64 az, .string sz] hx rfl (World.news_of_block (cs := #[.int .i64 kz, .int .i64 az, .string sz]) (t := 40) (fr := (0, 0)) (heap_alloc_new w0 _)) (by simp [Value.oneCell']) (by omega) (by unfold maxLen; omega) (by omega) (by simp; omega) (w0.heap.size + 1) (by simp) ?_
  intro g cap w' hown hgrow hat hlt
  exact h g cap w' hown (Kept.grown (Kept.alloc (Kept.refl _ w0) _) hgrow (fun _ e _ => e)) (hat.imp id (fun e => by omega))
/-- The tokens of an answer; none beside an error. -/
def toks (R : Except (Nat × Nat) (List Tok)) : List Tok := match R with | .ok l => l | .error _ => []
theorem Told.row {base : Nat} {w : World} {v er : Value} {R : Except (Nat × Nat) (List Tok)} (h : Told base w v er R) : TRow base w v (toks R) := by
  cases R with
  | ok l => exact h.1
  | error e => rw [h.1]; exact TRow.nil _ _
theorem RTold.row {base : Nat} {w : World} {v lv : Value} {R : Except (Nat × Nat) (List Tok)} (h : RTold base w v lv R) : TRow base w v (toks R) := by
  cases R with
  | ok l => exact h.1
  | error e => rw [h.1]; exact TRow.nil _ _
theorem toks_len (t : List UInt8) : (toks (scanL t)).length ≤ 20001 := by
  cases h : scanL t with
  | ok l => exact scanL_len h
  | error e => simp [toks]
set_option maxRecDepth 100000 in
set_option maxHeartbeats 2000000 in
theorem scanned_any (s : ByteArray) (w : World) (hs : s.size ≤ maxLen) : Calls Try.prog 8 #[.string s] w fun e w' => e = .returned (.bool true) ∧ Same0 w w' := by
  have hlen := toks_len s.data.toList
  go_enter Try.func8, Try.ntmps8
  go_upto_region 2 with (go_at_call 9; refine (scan_any _ _ hs).mono ?_; rintro e w1 ⟨va, ea, rfl, ha1, k1⟩)
  go_upto_region 3 with (go_at_call 9; refine (scan_any _ _ hs).mono ?_; rintro e w2 ⟨vb, eb, rfl, hb2, k2⟩)
  go_upto_region 4 with (go_at_call 13; refine (rscan_any _ _ hs).mono ?_; rintro e w3 ⟨vw, lw, rfl, hw3, k3⟩)
  generalize scanL s.data.toList = R at *
  have ha3 := (ha1.same k2).same k3
  have hb3 := hb2.same k3
  go_upto_region 5 with (go_at_call 11; refine (tsame_any ha3.row hw3.row (by omega)).mono ?_; rintro e w4 ⟨rfl, m4, rfl⟩)
  obtain ⟨ao, cap, rfl⟩ := row_shape ha3.row
  have ho4 : Owned w.heap.size (w3.drewN m4) (.slice ao (toks R).length cap) (toks R).length := ha3.row.owned.drewN m4
  have hk13 : Same0 w1 w3 := k2.trans' k3
  have hown : ∀ j, (Value.slice ao (toks R).length cap).ownBlock = some j → w.heap.size ≤ j ∧ j < w1.heap.size := fun j e => ha1.row.own e
  have HO : Hid (∀ j, (Value.slice ao (toks R).length cap).ownBlock = some j → w.heap.size ≤ j ∧ j < w1.heap.size) := hown
  have hb4 : Told w1.heap.size (w3.drewN m4) vb eb R := hb3.same ((Kept.refl _ _).drewN m4)
  have hw4 : RTold w2.heap.size (w3.drewN m4) vw lw R := hw3.same ((Kept.refl _ _).drewN m4)
  have he4 : Told w.heap.size (w3.drewN m4) (.slice ao (toks R).length cap) ea R := ha3.same ((Kept.refl _ _).drewN m4)
  have k4 : Same0 w (w3.drewN m4) := (k1.trans' hk13).drewN m4
  have hz4 : w1.heap.size ≤ (w3.drewN m4).heap.size := hk13.size
  have hz2 : w1.heap.size ≤ w2.heap.size := k2.size
  obtain ⟨w4, hw4e⟩ : ∃ w4, w3.drewN m4 = w4 := ⟨_, rfl⟩
  rw [hw4e] at ho4 hb4 hw4 he4 k4 hz4 ⊢
  obtain ⟨N, hN⟩ : ∃ N, (toks R).length = N := ⟨_, rfl⟩
  have hlr : (toks R).length ≤ 100000 := by omega
  rw [hN] at ho4 HO hlen he4 ⊢
  clear hw4e hN hown ha1 hb2 hw3 ha3 hb3 k1 k2 k3 hk13
  go_wp2
  go_loopw [10] (fun i wr => ∃ k : Nat, k ≤ N ∧ i = .int .i64 (k : Int) ∧ Owned w.heap.size wr (.slice ao N cap) N ∧ Kept (fun j => (Value.slice ao N cap).ownBlock = some j) w4 wr) (fun i _ => N - (intOf i).toNat)
  case atStart => exact ⟨0, Nat.zero_le _, rfl, ho4, Kept.refl _ _⟩
  case round =>
    obtain ⟨k, hk, rfl, ho, hkp⟩ := hrel
    by_cases hlt : k < N
    · obtain ⟨g, rfl, hg, ⟨u0, x0⟩, ⟨u1, x1⟩, ⟨u2, x2⟩, hfz, hst⟩ := ho.store hlt
      have f0 := hfz (k * 3)
      have f1 := hfz (k * 3 + 1)
      have f2 := hfz (k * 3 + 2)
      have HS : Hid (∀ a b c, Owned w.heap.size (((wr.setCell ⟨g, k * 3, none⟩ a).setCell ⟨g, k * 3 + 1, none⟩ b).setCell ⟨g, k * 3 + 2, none⟩ c) (.slice (some ⟨g, 0, none⟩) N cap) N) := hst
      have HK : Hid (∀ a b c, Kept (fun j => (Value.slice (some ⟨g, 0, none⟩) N cap).ownBlock = some j) w4 (((wr.setCell ⟨g, k * 3, none⟩ a).setCell ⟨g, k * 3 + 1, none⟩ b).setCell ⟨g, k * 3 + 2, none⟩ c)) := fun a b c =>
        Kept.setCell (p := ⟨g, k * 3 + 2, none⟩) (Kept.setCell (p := ⟨g, k * 3 + 1, none⟩) (Kept.setCell (p := ⟨g, k * 3, none⟩) hkp (fun _ => rfl) a) (fun _ => rfl) b) (fun _ => rfl) c
      have i1 : (0 : Int) ≤ (k : Int) := by omega
      have i2 : (k : Int) < (N : Int) := by omega
      clear hfz hst ho hkp
      go_wp2
      exact ⟨⟨k + 1, by omega, by go_num, HS.out _ _ _, HK.out _ _ _⟩, by simp [intOf]; omega⟩
    · have i2 : ¬ (k : Int) < (N : Int) := by omega
      obtain ⟨wo, rfl⟩ : ∃ wo, wo = wr := ⟨_, rfl⟩
      go_wp2
      go_loopw [3, 11] (fun a i wr => ∃ q n : Nat, q ≤ 9 ∧ i = .int .i64 (q : Int) ∧ Owned w.heap.size wr a n ∧ n ≤ N + q ∧ Kept (fun j => (Value.slice ao N cap).ownBlock = some j) w4 wr ∧ Hid (∀ j, a.ownBlock = some j → (Value.slice ao N cap).ownBlock = some j ∨ w4.heap.size ≤ j)) (fun _ i _ => 9 - (intOf i).toNat)
      case atStart => exact ⟨0, N, by omega, rfl, ho, by omega, hkp, fun j e => .inl e⟩
      case round =>
        obtain ⟨q, n, hq, rfl, ho2, hn2, hkp2, hat⟩ := hrel
        by_cases hlt2 : q < 9
        · have j2 : (q : Int) < 9 := by omega
          obtain ⟨xs, hx⟩ := ho2
          have hbs : w.heap.size ≤ wr.heap.size := by have h1 := k4.size; have h2 := hkp2.size; omega
          have hn3 : n ≤ 100000 := by omega
          go_wp2_with (first | (at_builtin; refine wpList_any rfl _ _ rfl w.heap.size n xs _ rfl hx (-2) 0 ⟨#[]⟩ rfl hbs hn3 ?_; intro g gcap w5 hr5 hk5 hat5))
          refine ⟨⟨q + 1, n + 1, by omega, by go_num, ⟨_, hr5⟩, by omega, hkp2.trans hk5 (fun j hj e => (hat.out j e).resolve_right (by omega)), fun j e => ?_⟩, by simp [intOf]; omega⟩
          simp only [Value.ownBlock, Option.some.injEq] at e
          subst e
          rcases hat5 with e | e
          · exact hat.out _ e
          · right; have := hkp2.size; omega
        · have j2 : ¬ (q : Int) < 9 := by omega
          rename World => wz
          have Kz : Same0 w wz := k4.trans hkp2 (fun i hi e => by have := (HO.out i e).1; omega)
          have hbz : TRow w1.heap.size wz vb (toks R) := hb4.row.kept hkp2 (fun j hj e => by have := (HO.out j e).2; omega)
          have hwz : TRow w2.heap.size wz vw (toks R) := hw4.row.kept hkp2 (fun j hj e => by have := (HO.out j e).2; omega)
          have cS : ∀ m, Calls Try.prog 10 #[ea, lw] (wz.drewN m) fun e w' => e = .returned (.bool true) ∧ Same0 (wz.drewN m) w' := fun m => same_of he4 hw4 hkp2 ((Kept.refl _ _).drewN m)
          have HC : Hid (∀ m, Calls Try.prog 10 #[ea, lw] (wz.drewN m) fun e w' => e = .returned (.bool true) ∧ Same0 (wz.drewN m) w') := cS
          clear cS he4 hw4 hb4 hkp2 ho2 hat
          go_wp2_with (first | (go_at_call 11; refine (tsame_any hbz hwz hlr).mono ?_; rintro e w' ⟨rfl, m6, rfl⟩) | (go_at_call 10; refine (HC.out m6).mono ?_; rintro e w7 ⟨rfl, k7⟩))
          go_ret
          exact ⟨rfl, Same0.trans' (Kept.drewN Kz m6) k7⟩
set_option maxHeartbeats 1000000 in
theorem scans_any (a : ByteArray) (ha : a.size ≤ maxLen) (b : ByteArray) (hb : b.size ≤ maxLen) (w : World) : Calls Try.prog 4 #[.string a, .string b] w fun e w' => e = .returned (.bool true) ∧ Below w.heap.size w w' := by
  go_enter Try.func4, Try.ntmps4
  go_upto_region 2 with (go_at_call 7; refine (awake_any _).mono ?_; rintro e w1 ⟨rfl, k1⟩)
  go_upto_region 3 with (go_at_call 8; refine (scanned_any _ _ ha).mono ?_; rintro e w2 ⟨rfl, k2⟩)
  go_upto_region 4 with (go_at_call 8; refine (scanned_any _ _ hb).mono ?_; rintro e w3 ⟨rfl, k3⟩)
  go_wp2_with (go_at_call 8; refine (scanned_any _ _ ha).mono ?_; rintro e w4 ⟨rfl, k4⟩)
  go_ret
  exact ⟨rfl, (((k1.trans' k2).trans' k3).trans' k4).below⟩
end Go.Proofs.Ytecbfnaeglkbaaa
