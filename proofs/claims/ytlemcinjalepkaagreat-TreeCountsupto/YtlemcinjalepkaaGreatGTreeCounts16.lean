import Derived.Test.YtlemcinjalepkaaGreatGRule15
import Derived.Deep.RegionLaw
import Derived.Deep.AppendLies
/- The document's answer for rules: the walk of its checks 2 and 3. -/
namespace Go.Proofs.YtlemcinjalepkaaGreat
set_option maxRecDepth 100000
set_option linter.unusedVariables false
open Go.RowKit
attribute [local go_sem ↓] Go.wp_at_zero Go.wp_at_succ
/-- The document's store. -/
structure MR (w : World) (m : Nat) (ro : Option Addr) (rc : Nat) (mo : Option Addr) (mc : Nat) (L : List Sym) (R : List Ru) : Prop where
  blk : w.heap[m]? = some (.cells #[.slice ro L.length rc, .slice mo R.length mc] 31 (0, 0))
  rl : Rl w.heap.size w (.slice ro L.length rc) L
  rs : RsAt w mo R
  nil : mo = none → mc = 0
  le : R.length ≤ 100
  ok : ∀ x ∈ R, checkE L x.1 = 0
theorem rl_up {n m : Nat} {w : World} {rv : Value} {L : List Sym} (h : Rl n w rv L) (hn : n ≤ m) : Rl m w rv L := ⟨h.1, fun k e => Nat.lt_of_lt_of_le (h.2.1 k e) hn, h.2.2⟩
theorem MR.same {w w' : World} {m : Nat} {ro : Option Addr} {rc : Nat} {mo : Option Addr} {mc : Nat} {L : List Sym} {R : List Ru} (h : MR w m ro rc mo mc L R) (hk : Same0 w w') : MR w' m ro rc mo mc L R :=
  ⟨hk.at0 h.blk, rl_up (h.rl.same hk) hk.size, h.rs.same hk, h.nil, h.le, h.ok⟩
/-- The first thing that fails of those from j0 on ahead of j1. -/
def PartA (L : List Sym) (R l : List Ru) (j0 j1 : Nat) (ws : List (Int × Int)) : Prop :=
  (ws = [] ∧ Upto L R l j1 0) ∨ ∃ j n, j0 ≤ j ∧ j < j1 ∧ n < l.length ∧ Upto L R l j n ∧ ckB L R l j n = false ∧ ws = wrongL L R l j n
theorem ck1_eq {L : List Sym} {R l : List Ru} {n : Nat} {x : Ru} (hx : x = l.getD n ([], [])) : ckB L R l 1 n = (decide (checkE L x.1 = 0) && decide (checkE L x.2 = 0)) := by subst hx; rfl
theorem ck2_eq {L : List Sym} {R l : List Ru} {n : Nat} {x : Ru} (hx : x = l.getD n ([], [])) : ckB L R l 2 n = (decide (x.1.length ≤ 200) && decide (x.2.length ≤ 200)) := by subst hx; rfl
theorem wr1_eq {L : List Sym} {R l : List Ru} {n : Nat} {x : Ru} (hx : x = l.getD n ([], [])) : wrongL L R l 1 n = [(71, (n : Int)), (if checkE L x.1 = 0 then checkE L x.2 else checkE L x.1, -1)] := by subst hx; rfl
theorem wrs_two (w : World) (a b c d : Int) {o : Obj} (ho : o = .cells #[.int .i64 a, .int .i64 b, .int .i64 c, .int .i64 d] 87 (0, 0)) : WrsAt (w.alloc o) (.slice (some ⟨w.heap.size, 0, none⟩) 2 2) [(a, b), (c, d)] :=
  wrs_new w [(a, b), (c, d)] _ 87 ho (fun i hi => by have hi' : i < 2 := hi; match i, hi' with | 0, _ => exact ⟨rfl, rfl⟩ | 1, _ => exact ⟨rfl, rfl⟩) 2 rfl
theorem wrs_nil (w : World) : WrsAt w (.slice none 0 0) [] := ⟨none, 0, rfl, .inl rfl⟩
set_option maxHeartbeats 8000000 in
theorem rterms_any {w : World} {m : Nat} {ro : Option Addr} {rc : Nat} {mo : Option Addr} {mc : Nat} {L : List Sym} {R : List Ru} (h : MR w m ro rc mo mc L R) {lo : Option Addr} {lc : Nat} {l : List Ru} (hl : RsAt w lo l) (hn : l.length ≤ 100) (hu : Upto L R l 1 0) :
    Calls Tryz.prog 96 #[.pointer (some ⟨m, 0, none⟩), .slice lo l.length lc] w fun e w' => ∃ ws v, e = .returned v ∧ PartA L R l 1 3 ws ∧ WrsAt w' v ws ∧ Same0 w w' := by
  have M0 : Same0 w w := Kept.refl _ _
  go_enter Tryz.func96, Tryz.ntmps96
  go_wp2
  go_loopw [5] (fun i wr => ∃ n : Nat, n ≤ l.length ∧ i = .int .i64 (n : Int) ∧ Hid (Upto L R l 1 n) ∧ Same0 w wr) (fun i _ => l.length - (intOf i).toNat)
  case atStart => exact ⟨0, Nat.zero_le _, rfl, hu, M0⟩
  case round =>
    clear M0 hu
    obtain ⟨n, hnl, rfl, hu, hs⟩ := hrel
    by_cases hlt : n < l.length
    · obtain ⟨lb, off, rfl, hlb, hru⟩ := (hl.same hs).get hlt
      obtain ⟨x, hx0⟩ : ∃ x, x = l[n] := ⟨_, rfl⟩
      rw [← hx0] at hru
      have hx : x = l.getD n ([], []) := by rw [hx0]; simp [List.getD, hlt]
      obtain ⟨ao, ac, bo, bc, r0, r1, A1, A2⟩ := hru
      have i1 : (0 : Int) ≤ (n : Int) := by omega
      have i2 : (n : Int) < (l.length : Int) := by omega
      have hm1 := h.same hs
      have HS : Hid (∀ ww, Same0 wr ww → ww.cell? ⟨m, 0, none⟩ = some (.slice ro L.length rc) ∧ ww.cell? ⟨lb, off + n * 2, none⟩ = some (.slice ao x.1.length ac) ∧ ww.cell? ⟨lb, off + n * 2 + 1, none⟩ = some (.slice bo x.2.length bc)) := fun ww hk => ⟨cellAt (hm1.same hk).blk 0, (hk.cell (p := ⟨lb, off + n * 2, none⟩) hlb (fun f => f)).trans r0, (hk.cell (p := ⟨lb, off + n * 2 + 1, none⟩) hlb (fun f => f)).trans r1⟩
      have s1 := A1.size
      have s2 := A2.size
      have C1 : Hid (∀ ww, Same0 wr ww → Calls Tryz.prog 56 #[.slice ro L.length rc, .slice ao x.1.length ac] ww fun e w' => e = .returned (.int .i64 (checkE L x.1)) ∧ Same0 wr w') := fun ww hk => (rcheck_any (hm1.same hk).rl (A1.same hk).at' (by unfold maxLen; omega)).mono (fun e w' ⟨q1, q2⟩ => ⟨q1, by rw [q2]; exact hk⟩)
      have C2 : Hid (∀ ww, Same0 wr ww → Calls Tryz.prog 56 #[.slice ro L.length rc, .slice bo x.2.length bc] ww fun e w' => e = .returned (.int .i64 (checkE L x.2)) ∧ Same0 wr w') := fun ww hk => (rcheck_any (hm1.same hk).rl (A2.same hk).at' (by unfold maxLen; omega)).mono (fun e w' ⟨q1, q2⟩ => ⟨q1, by rw [q2]; exact hk⟩)
      have CC0 := HS.out wr (Kept.refl _ _)
      have W1 : Same0 wr wr.drew := Kept.drew (Kept.refl _ _)
      have P0 : Hid (checkE L x.1 = 0 → checkE L x.2 = 0 → Upto L R l 1 (n + 1)) := fun q1 q2 => hu.out.step (by rw [ck1_eq hx]; simp [q1, q2])
      have P1 : Hid (¬ (checkE L x.1 = 0 ∧ checkE L x.2 = 0) → PartA L R l 1 3 [(71, (n : Int)), (if checkE L x.1 = 0 then checkE L x.2 else checkE L x.1, -1)]) := fun q => .inr ⟨1, n, by omega, by omega, hlt, hu.out, by rw [ck1_eq hx]; simpa using q, (wr1_eq hx).symm⟩
      clear r0 r1 A1 A2 hm1 hx hx0 hu h hl
      by_cases hz : checkE L x.1 = 0
      · have zz : (checkE L x.1 == 0) = true := by simpa using hz
        go_wp2
        go_region_held3 (fun w' => w'.cell? ⟨m, 0, none⟩ = some (.slice ro L.length rc) ∧ w'.cell? ⟨lb, off + n * 2, none⟩ = some (.slice ao x.1.length ac) ∧ w'.cell? ⟨lb, off + n * 2 + 1, none⟩ = some (.slice bo x.2.length bc)) (first | exact cc1 | exact CC0) (first | (go_at_call 56; refine (C1.out _ W1).mono ?_; rintro e w2 ⟨rfl, hw2⟩; have cc1 := HS.out _ hw2))
        all_goals
          have W2 : Same0 wr w2.drew := Kept.drew hw2
          by_cases hq : checkE L x.2 = 0
          · have zq : (checkE L x.2 == 0) = true := by simpa using hq
            go_wp2
            go_region_held3 (fun w' => w'.cell? ⟨m, 0, none⟩ = some (.slice ro L.length rc) ∧ w'.cell? ⟨lb, off + n * 2, none⟩ = some (.slice ao x.1.length ac) ∧ w'.cell? ⟨lb, off + n * 2 + 1, none⟩ = some (.slice bo x.2.length bc)) (first | exact cc2 | exact cc1) (first | (go_at_call 56; refine (C2.out _ W2).mono ?_; rintro e w3 ⟨rfl, hw3⟩; have cc2 := HS.out _ hw3))
            all_goals
              have P := P0.out hz hq
              clear P0 P1
              go_wp2
              exact ⟨⟨n + 1, by omega, by go_num, P, hs.trans' hw3⟩, by simp [intOf]; omega⟩
          · have zq : (checkE L x.2 == 0) = false := by simpa using hq
            go_wp2
            go_region_held3 (fun w' => w'.cell? ⟨m, 0, none⟩ = some (.slice ro L.length rc) ∧ w'.cell? ⟨lb, off + n * 2, none⟩ = some (.slice ao x.1.length ac) ∧ w'.cell? ⟨lb, off + n * 2 + 1, none⟩ = some (.slice bo x.2.length bc)) (first | exact cc2 | exact cc1) (first | (go_at_call 56; refine (C2.out _ W2).mono ?_; rintro e w3 ⟨rfl, hw3⟩; have cc2 := HS.out _ hw3))
            all_goals
              have P : Hid (PartA L R l 1 3 [(71, (n : Int)), (checkE L x.2, -1)]) := by
                have := P1.out (fun q => hq q.2)
                rwa [if_pos hz] at this
              clear P0 P1
              go_wp2
              go_ret
              exact ⟨_, _, rfl, P.out, wrs_two w3 _ _ _ _ rfl, hs.trans' (Kept.alloc hw3 _)⟩
      · have zz : (checkE L x.1 == 0) = false := by simpa using hz
        have P : Hid (PartA L R l 1 3 [(71, (n : Int)), (checkE L x.1, -1)]) := by
          have := P1.out (fun q => hz q.1)
          rwa [if_neg hz] at this
        clear P0 P1
        go_wp2
        go_region_held3 (fun w' => w'.cell? ⟨m, 0, none⟩ = some (.slice ro L.length rc) ∧ w'.cell? ⟨lb, off + n * 2, none⟩ = some (.slice ao x.1.length ac) ∧ w'.cell? ⟨lb, off + n * 2 + 1, none⟩ = some (.slice bo x.2.length bc)) (first | exact cc1 | exact CC0) (first | (go_at_call 56; refine (C1.out _ W1).mono ?_; rintro e w2 ⟨rfl, hw2⟩; have cc1 := HS.out _ hw2))
        all_goals
          go_wp2
          go_ret
          exact ⟨_, _, rfl, P.out, wrs_two w2 _ _ _ _ rfl, hs.trans' (Kept.alloc hw2 _)⟩
    · have hu2 : Hid (Upto L R l 2 0) := hu.out.next (by omega)
      have hlt' : ¬ (n : Int) < (l.length : Int) := by omega
      clear hu hlt
      go_wp2
      go_loopw [7] (fun i wr => ∃ n : Nat, n ≤ l.length ∧ i = .int .i64 (n : Int) ∧ Hid (Upto L R l 2 n) ∧ Same0 w wr) (fun i _ => l.length - (intOf i).toNat)
      case atStart => exact ⟨0, Nat.zero_le _, rfl, hu2, hs⟩
      case round =>
        clear hs hu2 hlt' hnl
        obtain ⟨n, hnl, rfl, hu, hs⟩ := hrel
        by_cases hlt : n < l.length
        · obtain ⟨lb, off, rfl, hlb, hru⟩ := (hl.same hs).get hlt
          obtain ⟨x, hx0⟩ : ∃ x, x = l[n] := ⟨_, rfl⟩
          rw [← hx0] at hru
          have hx : x = l.getD n ([], []) := by rw [hx0]; simp [List.getD, hlt]
          obtain ⟨ao, ac, bo, bc, r0, r1, A1, A2⟩ := hru
          have i1 : (0 : Int) ≤ (n : Int) := by omega
          have i2 : (n : Int) < (l.length : Int) := by omega
          have P0 : Hid (x.1.length ≤ 200 → x.2.length ≤ 200 → Upto L R l 2 (n + 1)) := fun q1 q2 => hu.out.step (by rw [ck2_eq hx]; simp [q1, q2])
          have P1 : Hid (¬ (x.1.length ≤ 200 ∧ x.2.length ≤ 200) → PartA L R l 1 3 [(72, (n : Int))]) := fun q => .inr ⟨2, n, by omega, by omega, hlt, hu.out, by rw [ck2_eq hx]; simpa using q, rfl⟩
          clear A1 A2 hx hx0 hu h hl
          by_cases h1 : x.1.length ≤ 200
          · have g1 : ¬ (200 : Int) < (x.1.length : Int) := by omega
            by_cases h2 : x.2.length ≤ 200
            · have g2 : ¬ (200 : Int) < (x.2.length : Int) := by omega
              have P := P0.out h1 h2
              clear P0 P1
              go_wp2
              exact ⟨⟨n + 1, by omega, by go_num, P, hs⟩, by simp [intOf]; omega⟩
            · have g2 : (200 : Int) < (x.2.length : Int) := by omega
              have P := P1.out (fun q => h2 q.2)
              clear P0 P1
              go_wp2_with (first | (go_at_call 95; refine (rone_any _ _ _).mono ?_; rintro e w2 ⟨v, rfl, hv, hk2⟩))
              go_ret
              exact ⟨_, _, rfl, P, hv, hs.trans' hk2⟩
          · have g1 : (200 : Int) < (x.1.length : Int) := by omega
            have P := P1.out (fun q => h1 q.1)
            clear P0 P1
            go_wp2_with (first | (go_at_call 95; refine (rone_any _ _ _).mono ?_; rintro e w2 ⟨v, rfl, hv, hk2⟩))
            go_ret
            exact ⟨_, _, rfl, P, hv, hs.trans' hk2⟩
        · have P : Hid (PartA L R l 1 3 []) := .inl ⟨rfl, hu.out.next (by omega)⟩
          have hlt' : ¬ (n : Int) < (l.length : Int) := by omega
          clear hu hlt
          go_wp2
          go_ret
          exact ⟨_, _, rfl, P.out, wrs_nil _, hs⟩
end Go.Proofs.YtlemcinjalepkaaGreat
/- The walks of Of, of the document's Of, and of the laws' question about both. -/
namespace Go.Proofs.YtlemcinjalepkaaGreat
set_option maxRecDepth 100000
set_option linter.unusedVariables false
open Go.RowKit
attribute [local go_sem ↓] Go.wp_at_zero Go.wp_at_succ
/-- The numbers, from k on, of the rules whose left side begins with s. -/
def ofF (s : Int) : Nat → List Ru → List Int
  | _, [] => []
  | k, x :: r => (if x.1.head? = some s then [(k : Int)] else []) ++ ofF s (k + 1) r
theorem ofF_snoc (s : Int) (x : Ru) : ∀ (l : List Ru) (k : Nat), ofF s k (l ++ [x]) = ofF s k l ++ (if x.1.head? = some s then [((k + l.length : Nat) : Int)] else [])
  | [], k => by simp [ofF]
  | y :: r, k => by
    simp only [List.cons_append, ofF, ofF_snoc s x r (k + 1), List.append_assoc]
    congr 3
    simp; omega
theorem ofF_take {s : Int} {R : List Ru} {k : Nat} (h : k < R.length) : ofF s 0 (R.take (k + 1)) = ofF s 0 (R.take k) ++ (if R[k].1.head? = some s then [(k : Int)] else []) := by
  rw [List.take_add_one, List.getElem?_eq_getElem h]
  show ofF s 0 (R.take k ++ [R[k]]) = _
  rw [ofF_snoc]
  have : (R.take k).length = k := by simp; omega
  rw [this, Nat.zero_add]
theorem ofF_len (s : Int) : ∀ (l : List Ru) (k : Nat), (ofF s k l).length ≤ l.length
  | [], _ => by simp [ofF]
  | x :: r, k => by
    have := ofF_len s r (k + 1)
    simp only [ofF, List.length_append, List.length_cons]
    split <;> simp <;> omega
theorem head_at {xs : List Int} (h : 0 < xs.length) (s : Int) : (xs.head? = some s) ↔ xs[0] = s := by
  cases xs with
  | nil => simp at h
  | cons x r => simp
set_option maxHeartbeats 4000000 in
theorem sof_any {w : World} {b bs : Nat} {L : List Sym} {R : List Ru} {lv : Value} {vs : List Value} (h : StAt w b bs L R lv vs) (s : Int) :
    Calls Tryz.prog 26 #[.pointer (some ⟨b, 0, none⟩), .int .i64 s] w fun e w' => ∃ v, e = .returned v ∧ Row w.heap.size w' v (ofF s 0 R) ∧ Same0 w w' := by
  have hok := h.ok
  have hle := h.le
  obtain ⟨ro, rc, rfl, hR⟩ := h.read
  obtain ⟨c0, c1⟩ := hR.cells
  have M0 : Same0 w w := Kept.refl _ _
  clear h
  go_enter Tryz.func26, Tryz.ntmps26
  go_wp2
  go_loopw [5, 15] (fun v i wr => ∃ k : Nat, k ≤ R.length ∧ i = .int .i64 (k : Int) ∧ Row w.heap.size wr v (ofF s 0 (R.take k)) ∧ Same0 w wr) (fun _ i _ => R.length - (intOf i).toNat)
  case atStart => exact ⟨0, Nat.zero_le _, rfl, World.ownsRow_nil _ _ _ _, M0⟩
  case round =>
    clear M0 c0 c1
    obtain ⟨k, hk, rfl, hr, hs⟩ := hrel
    obtain ⟨vo, vc, rfl⟩ := row_shape hr
    by_cases hlt : k < R.length
    · obtain ⟨gb, goff, rfl, hgb, ao, ac, bo, bc, r0, r1, A1, A2⟩ := (hR.rs.same hs).get hlt
      have hp := (ok_len (hok _ (List.getElem_mem hlt))).1.1
      obtain ⟨ab, ao', rfl, hab, hcell⟩ := A1.at'.get hp
      have KA : Same0 wr (wr.alloc (.cells #[.slice (some ⟨ab, ao', none⟩) R[k].1.length ac, .slice bo R[k].2.length bc] 73)) := (Kept.refl _ _).alloc _
      have hcell' : (wr.alloc (.cells #[.slice (some ⟨ab, ao', none⟩) R[k].1.length ac, .slice bo R[k].2.length bc] 73)).cell? ⟨ab, ao', none⟩ = some (.int .i64 R[k].1[0]) := (KA.cell (p := ⟨ab, ao' + 0, none⟩) hab (fun f => f)).trans hcell
      have i1 : (0 : Int) ≤ (k : Int) := by omega
      have i2 : (k : Int) < (R.length : Int) := by omega
      have i3 : (0 : Int) < (R[k].1.length : Int) := by omega
      have hol := ofF_len s (R.take k) 0
      have hol2 : (ofF s 0 (R.take k)).length ≤ 100 := by rw [List.length_take] at hol; omega
      have E : Hid (ofF s 0 (R.take (k + 1)) = ofF s 0 (R.take k) ++ (if R[k].1[0] = s then [(k : Int)] else [])) := by
        show _ = _
        rw [ofF_take hlt]
        simp only [head_at hp]
      have hrA : Row w.heap.size (wr.alloc (.cells #[.slice (some ⟨ab, ao', none⟩) R[k].1.length ac, .slice bo R[k].2.length bc] 73)) (.slice vo (ofF s 0 (R.take k)).length vc) (ofF s 0 (R.take k)) := KA.row hr (fun _ _ f => f)
      have zA := (hs.trans' KA).size
      clear hcell A1 A2 hol
      by_cases he : R[k].1[0] = s
      · have he' : (R[k].1[0] == s) = true := by simpa using he
        have E2 := E.out
        rw [if_pos he] at E2
        have E3 : Hid (ofF s 0 (R.take (k + 1)) = ofF s 0 (R.take k) ++ [(k : Int)]) := E2
        clear E E2 he
        go_upto_region 8 with fail
        obtain ⟨wa, hwa⟩ : ∃ wa, wa = wr.alloc (.cells #[.slice (some ⟨ab, ao', none⟩) R[k].1.length ac, .slice bo R[k].2.length bc] 73) := ⟨_, rfl⟩
        rw [← hwa] at hrA zA KA hcell' ⊢
        clear hwa
        go_wp2_with (first | (at_builtin; refine wpList_push rfl _ _ 32 rfl Tryz.underlying32 w.heap.size (ofF s 0 (R.take k)) _ rfl hrA (k : Int) rfl zA (by omega) ?_; intro g cap w4 hr4 hk4 hat4))
        refine ⟨⟨k + 1, by omega, by go_num, ?_, Kept.trans (hs.trans' KA) hk4 (fun i hi e => by have := (hr.lt i e).1; omega)⟩, by simp [intOf]; omega⟩
        rw [E3.out]
        exact hr4
      · have he' : (R[k].1[0] == s) = false := by simpa using he
        have E2 := E.out
        rw [if_neg he, List.append_nil] at E2
        have E3 : Hid (ofF s 0 (R.take (k + 1)) = ofF s 0 (R.take k)) := E2
        clear E E2 he
        go_wp2
        refine ⟨⟨k + 1, by omega, by go_num, ?_, hs.trans' KA⟩, by simp [intOf]; omega⟩
        rw [E3.out]
        exact hrA
    · obtain rfl : k = R.length := by omega
      rw [List.take_length] at hr
      rw [List.take_length]
      go_wp2
      go_ret
      exact ⟨_, rfl, hr, hs⟩
end Go.Proofs.YtlemcinjalepkaaGreat
/- Two lists of the same rules; a store beside another one; an error asked whether it is nil. -/
namespace Go.Proofs.YtlemcinjalepkaaGreat
set_option linter.unusedVariables false
set_option maxRecDepth 100000
open Go.RowKit
attribute [local go_sem ↓] Go.wp_at_zero Go.wp_at_succ
/-- A store stays, whatever another one of other blocks does. -/
theorem StAt.other {w w' : World} {b bs b2 : Nat} {L : List Sym} {R : List Ru} {lv lv2 : Value} {vs : List Value} (h : StAt w b bs L R lv vs) (hk : Kept (StoB w b2 lv2) w w') (h2 : ∀ k, StoB w b2 lv2 k → IsSt w k) (hb : b ≠ b2) (hr : ∀ k, lv2.ownBlock = some k → ∃ c, w.heap[k]? = some (.cells c 73 (0, 0))) (hb2 : ∃ c, w.heap[b2]? = some (.cells c 130 (0, 0))) (hd : ∀ k, lv.ownBlock = some k → lv2.ownBlock ≠ some k) : StAt w' b bs L R lv vs := by
  refine ⟨hk.at h.blk ?_, sg_up (h.sig.kept_ty hk h2) hk.size, hk.row h.row ?_, h.own.kept hk (fun k e => (h2 k e).no_int), h.le, h.ok⟩
  · rintro (e | e)
    · exact hb e
    · obtain ⟨c, hc⟩ := hr b e
      rw [h.blk] at hc; cases hc
  · rintro k e (q | q)
    · subst q
      obtain ⟨c, hc⟩ := own_blk h.row e
      obtain ⟨c', hc'⟩ := hb2
      rw [hc] at hc'; cases hc'
    · exact hd k e q
theorem StAt.beside {w w' : World} {b bs b2 bs2 : Nat} {L L2 : List Sym} {R R2 : List Ru} {lv lv2 : Value} {vs vs2 : List Value} (h : StAt w b bs L R lv vs) (k : StAt w b2 bs2 L2 R2 lv2 vs2) (hk : Kept (StoB w b2 lv2) w w') (hb : b ≠ b2) (hd : ∀ k, lv.ownBlock = some k → lv2.ownBlock ≠ some k) : StAt w' b bs L R lv vs :=
  h.other hk k.isSt hb (fun q e => own_blk k.row e) ⟨_, k.blk⟩ hd
end Go.Proofs.YtlemcinjalepkaaGreat
/- The walks of the laws' questions about Of and At. -/
namespace Go.Proofs.YtlemcinjalepkaaGreat
set_option maxRecDepth 100000
set_option linter.unusedVariables false
open Go.RowKit
attribute [local go_sem ↓] Go.wp_at_zero Go.wp_at_succ
theorem MR.cells {w : World} {m : Nat} {ro : Option Addr} {rc : Nat} {mo : Option Addr} {mc : Nat} {L : List Sym} {R : List Ru} (h : MR w m ro rc mo mc L R) : w.cell? ⟨m, 0, none⟩ = some (.slice ro L.length rc) ∧ w.cell? ⟨m, 1, none⟩ = some (.slice mo R.length mc) := ⟨cellAt h.blk 0, cellAt h.blk 1⟩
end Go.Proofs.YtlemcinjalepkaaGreat
/- The walk of the laws' question about At. -/
namespace Go.Proofs.YtlemcinjalepkaaGreat
set_option maxRecDepth 100000
set_option linter.unusedVariables false
open Go.RowKit
attribute [local go_sem ↓] Go.wp_at_zero Go.wp_at_succ
/-- A block of numbers, so many at least. -/
def NumB (w : World) (g n : Nat) : Prop := ∃ cur, w.heap[g]? = some (.cells cur 3 (0, 0)) ∧ n ≤ cur.size
theorem NumB.set {w : World} {g n k : Nat} (h : NumB w g n) (g' : Nat) (v : Value) : NumB (w.setCell ⟨g', k, none⟩ v) g n := by
  obtain ⟨cur, h1, h2⟩ := h
  by_cases e : g = g'
  · subst e; exact ⟨_, setAt h1 k v, by simpa using h2⟩
  · exact ⟨cur, by rw [Below.heap_setCell _ _ _ _ e]; exact h1, h2⟩
theorem NumB.cell {w : World} {g n k : Nat} (h : NumB w g n) (hk : k < n) : (∃ u, w.cell? ⟨g, k, none⟩ = some u) ∧ w.frozen? ⟨g, k, none⟩ = false := by
  obtain ⟨cur, h1, h2⟩ := h
  exact ⟨⟨_, (cellAt h1 k).trans (Array.getElem?_eq_getElem (by omega))⟩, frozenAt h1 k⟩
end Go.Proofs.YtlemcinjalepkaaGreat
/- Rules that are lent: the state, and append where there is room. -/
namespace Go.Proofs.YtlemcinjalepkaaGreat
set_option maxRecDepth 100000
set_option linter.unusedVariables false
open Go.RowKit
attribute [local go_sem ↓] Go.wp_at_zero Go.wp_at_succ
/-- Rules that are lent: each side in a block of its own, a number behind it. -/
structure Lent7 (base : Nat) (w : World) (v : Value) (l : List Ru) (k : Nat) (vs : List Value) (f : Nat → Nat) : Prop where
  row : w.ownsRow base 73 2 v k vs
  le : k ≤ l.length
  lo : ∀ i, i < k * 2 → base ≤ f i ∧ f i < w.heap.size
  up : ∀ i j, i < j → j < k * 2 → f i < f j
  one : ∀ i (h : i < l.length), i < k → vs[i * 2]? = some (.slice (some ⟨f (i * 2), 0, none⟩) l[i].1.length (l[i].1.length + 1)) ∧ Row base w (.slice (some ⟨f (i * 2), 0, none⟩) (l[i].1.length + 1) (l[i].1.length + 1)) (l[i].1 ++ [77])
  two : ∀ i (h : i < l.length), i < k → vs[i * 2 + 1]? = some (.slice (some ⟨f (i * 2 + 1), 0, none⟩) l[i].2.length (l[i].2.length + 1)) ∧ Row base w (.slice (some ⟨f (i * 2 + 1), 0, none⟩) (l[i].2.length + 1) (l[i].2.length + 1)) (l[i].2 ++ [78])
theorem Lent7.nil (base : Nat) (w : World) (l : List Ru) : Lent7 base w (.slice none 0 0) l 0 [] (fun i => i) :=
  ⟨World.ownsRow_nil _ _ _ _, Nat.zero_le _, fun i h => absurd h (by omega), fun i j _ h => absurd h (by omega), fun i _ h => absurd h (by omega), fun i _ h => absurd h (by omega)⟩
theorem Row.beside7 {base b2 : Nat} {wd w9 : World} {v1 v : Value} {xs : List Int} {k : Nat} {vs : List Value} (r : Row b2 wd v1 xs) (hrow : wd.ownsRow base 73 2 v k vs) (k9 : Kept (fun q => v.ownBlock = some q) wd w9) : Row b2 w9 v1 xs := by
  refine k9.row r (fun q e hq => ?_)
  rcases r.2 with ⟨h0, _⟩ | ⟨g', c', cur, h1, _, hg, _⟩
  · subst h0; simp [Value.ownBlock] at e
  · subst h1
    simp only [Value.ownBlock, Option.some.injEq] at e
    subst e
    rcases hrow.2 with ⟨h0, _⟩ | ⟨g2, c2, cur2, h2, _, hg2, _⟩
    · subst h0; simp [Value.ownBlock] at hq
    · subst h2
      simp only [Value.ownBlock, Option.some.injEq] at hq
      subst hq
      rw [hg] at hg2
      cases hg2
theorem Lent7.more {base : Nat} {wr wd w9 : World} {v : Value} {l : List Ru} {k : Nat} {vs : List Value} {f : Nat → Nat} {g g' gg cap : Nat} (h : Lent7 base wr v l k vs f) (hk : k < l.length) (s : Same0 wr wd) (hb : base ≤ g) (h1 : wr.heap.size ≤ g) (h2 : g < g') (h3 : g' < wd.heap.size)
    (r1 : Row base wd (.slice (some ⟨g, 0, none⟩) (l[k].1.length + 1) (l[k].1.length + 1)) (l[k].1 ++ [77])) (r2 : Row base wd (.slice (some ⟨g', 0, none⟩) (l[k].2.length + 1) (l[k].2.length + 1)) (l[k].2 ++ [78]))
    (r9 : w9.ownsRow base 73 2 (.slice (some ⟨gg, 0, none⟩) (k + 1) cap) (k + 1) (vs ++ [.slice (some ⟨g, 0, none⟩) l[k].1.length (l[k].1.length + 1), .slice (some ⟨g', 0, none⟩) l[k].2.length (l[k].2.length + 1)])) (k9 : Kept (fun q => v.ownBlock = some q) wd w9) :
    Lent7 base w9 (.slice (some ⟨gg, 0, none⟩) (k + 1) cap) l (k + 1) (vs ++ [.slice (some ⟨g, 0, none⟩) l[k].1.length (l[k].1.length + 1), .slice (some ⟨g', 0, none⟩) l[k].2.length (l[k].2.length + 1)]) (fun i => if i < k * 2 then f i else if i = k * 2 then g else g') := by
  have hrow := s.row h.row (fun _ _ f => f)
  have hz := s.size
  have hz9 := k9.size
  have hvs : vs.length = k * 2 := h.row.1
  refine ⟨r9, hk, fun i hi => ?_, fun i j hij hj => ?_, fun i hi hik => ?_, fun i hi hik => ?_⟩
  · split
    · rename_i q; have := h.lo i q; omega
    · split <;> omega
  · by_cases c1 : j < k * 2
    · rw [if_pos c1, if_pos (by omega)]; exact h.up i j hij c1
    · rw [if_neg c1]
      by_cases c2 : i < k * 2
      · rw [if_pos c2]
        have := h.lo i c2
        split <;> omega
      · rw [if_neg c2, if_pos (by omega), if_neg (by omega)]; exact h2
  · by_cases c : i < k
    · obtain ⟨a, b⟩ := h.one i hi c
      rw [if_pos (by omega), List.getElem?_append_left (by omega)]
      exact ⟨a, Row.beside7 (s.row b (fun _ _ f => f)) hrow k9⟩
    · obtain rfl : i = k := by omega
      rw [if_neg (by omega), if_pos rfl, List.getElem?_append_right (by omega), hvs]
      exact ⟨by simp, Row.beside7 r1 hrow k9⟩
  · by_cases c : i < k
    · obtain ⟨a, b⟩ := h.two i hi c
      rw [if_pos (by omega), List.getElem?_append_left (by omega)]
      exact ⟨a, Row.beside7 (s.row b (fun _ _ f => f)) hrow k9⟩
    · obtain rfl : i = k := by omega
      rw [if_neg (by omega), if_neg (by omega), List.getElem?_append_right (by omega), hvs]
      exact ⟨by simp, Row.beside7 r2 hrow k9⟩
end Go.Proofs.YtlemcinjalepkaaGreat
/- The walk of law07.lent. -/
namespace Go.Proofs.YtlemcinjalepkaaGreat
set_option maxRecDepth 100000
set_option linter.unusedVariables false
open Go.RowKit
attribute [local go_sem ↓] Go.wp_at_zero Go.wp_at_succ
end Go.Proofs.YtlemcinjalepkaaGreat
/- The walk of law07.kept. -/
namespace Go.Proofs.YtlemcinjalepkaaGreat
set_option maxRecDepth 100000
set_option linter.unusedVariables false
open Go.RowKit
attribute [local go_sem ↓] Go.wp_at_zero Go.wp_at_succ
theorem Lent7.rs {base : Nat} {w : World} {v : Value} {l : List Ru} {vs : List Value} {f : Nat → Nat} (h : Lent7 base w v l l.length vs f) (hs : ∀ x ∈ l, x.1.length * 8 ≤ 140737488351232 ∧ x.2.length * 8 ≤ 140737488351232) : ∃ vo vc, v = .slice vo l.length vc ∧ RsAt w vo l ∧ (0 < l.length → ∃ gv, vo = some ⟨gv, 0, none⟩) := by
  rcases h.row.2 with ⟨rfl, h0⟩ | ⟨g, cap, cur, rfl, hb, hg, h1, h2, h3, h4⟩
  · have : l = [] := List.eq_nil_of_length_eq_zero (by omega)
    subst this
    exact ⟨none, 0, rfl, .inl rfl, fun h => absurd h (by simp)⟩
  · refine ⟨some ⟨g, 0, none⟩, cap, rfl, .inr ⟨g, 0, rfl, lt_of_at hg, fun i hi => ?_⟩, fun _ => ⟨g, rfl⟩⟩
    obtain ⟨a1, a2⟩ := h.one i hi hi
    obtain ⟨b1, b2⟩ := h.two i hi hi
    have hx := hs _ (List.getElem_mem hi)
    rw [Nat.zero_add]
    exact ⟨_, _, _, _, (h.row.cellAt (i * 2) (by omega)).trans a1, (h.row.cellAt (i * 2 + 1) (by omega)).trans b1, ⟨row_prefix a2, by omega, fun e => (by cases e), hx.1⟩, ⟨row_prefix b2, by omega, fun e => (by cases e), hx.2⟩⟩
/-- What is left of lent rules: those from k on. -/
structure Left7 (base : Nat) (w : World) (gv : Nat) (l : List Ru) (k : Nat) (f : Nat → Nat) : Prop where
  blk : ∃ cur, w.heap[gv]? = some (.cells cur 73 (0, 0)) ∧ l.length * 2 ≤ cur.size ∧ ∀ i (h : i < l.length), k ≤ i → cur[i * 2]? = some (.slice (some ⟨f (i * 2), 0, none⟩) l[i].1.length (l[i].1.length + 1)) ∧ cur[i * 2 + 1]? = some (.slice (some ⟨f (i * 2 + 1), 0, none⟩) l[i].2.length (l[i].2.length + 1))
  ge : base ≤ gv ∧ ∀ i, i < l.length * 2 → base ≤ f i
  up : ∀ i j, i < j → j < l.length * 2 → f i < f j
  one : ∀ i (h : i < l.length), k ≤ i → Row base w (.slice (some ⟨f (i * 2), 0, none⟩) (l[i].1.length + 1) (l[i].1.length + 1)) (l[i].1 ++ [77])
  two : ∀ i (h : i < l.length), k ≤ i → Row base w (.slice (some ⟨f (i * 2 + 1), 0, none⟩) (l[i].2.length + 1) (l[i].2.length + 1)) (l[i].2 ++ [78])
theorem Left7.of {base : Nat} {w : World} {gv vc : Nat} {l : List Ru} {vs : List Value} {f : Nat → Nat} (h : Lent7 base w (.slice (some ⟨gv, 0, none⟩) l.length vc) l l.length vs f) : Left7 base w gv l 0 f := by
  rcases h.row.2 with ⟨e, h0⟩ | ⟨g, cap, cur, e, hb, hg, h1, h2, h3, h4⟩
  · cases e
  · simp only [Value.slice.injEq, Option.some.injEq, Addr.mk.injEq] at e
    obtain ⟨⟨rfl, _⟩, _, rfl⟩ := e
    have hv : ∀ j u, vs[j]? = some u → j < l.length * 2 → cur[j]? = some u := fun j u hu hj => by
      rw [← h4, List.getElem?_take_of_lt hj] at hu
      simpa using hu
    exact ⟨⟨cur, hg, by omega, fun i hi _ => ⟨hv _ _ (h.one i hi hi).1 (by omega), hv _ _ (h.two i hi hi).1 (by omega)⟩⟩, ⟨hb, fun i hi => (h.lo i hi).1⟩, h.up, fun i hi _ => (h.one i hi hi).2, fun i hi _ => (h.two i hi hi).2⟩
theorem Left7.next {base : Nat} {w w' : World} {gv : Nat} {l : List Ru} {k : Nat} {f : Nat → Nat} {A B : Value} (h : Left7 base w gv l k f) (hk : k < l.length) (hw : Kept (fun q => q = f (k * 2) ∨ q = f (k * 2 + 1)) w w') :
    Left7 base ((w'.setCell ⟨gv, k * 2, none⟩ A).setCell ⟨gv, k * 2 + 1, none⟩ B) gv l (k + 1) f := by
  obtain ⟨cur, hc, hn, he⟩ := h.blk
  have num : ∀ i (hi : i < l.length), k ≤ i → ∃ c1 c2, w.heap[f (i * 2)]? = some (.cells c1 3 (0, 0)) ∧ w.heap[f (i * 2 + 1)]? = some (.cells c2 3 (0, 0)) := fun i hi hki => by
    rcases (h.one i hi hki).2 with ⟨e, _⟩ | ⟨g, _, c1, e, _, hg, _⟩
    · cases e
    · rcases (h.two i hi hki).2 with ⟨e2, _⟩ | ⟨g2, _, c2, e2, _, hg2, _⟩
      · cases e2
      · simp only [Value.slice.injEq, Option.some.injEq, Addr.mk.injEq] at e e2
        obtain ⟨⟨rfl, _⟩, _⟩ := e
        obtain ⟨⟨rfl, _⟩, _⟩ := e2
        exact ⟨c1, c2, hg, hg2⟩
  have hgv : ∀ i (hi : i < l.length), k ≤ i → gv ≠ f (i * 2) ∧ gv ≠ f (i * 2 + 1) := fun i hi hki => by
    obtain ⟨c1, c2, e1, e2⟩ := num i hi hki
    exact ⟨fun e => (by rw [← e, hc] at e1; cases e1), fun e => (by rw [← e, hc] at e2; cases e2)⟩
  have hc' := hw.at hc (fun e => by have := hgv k hk (Nat.le_refl _); omega)
  have ks : Kept (fun q => q = gv) w' ((w'.setCell ⟨gv, k * 2, none⟩ A).setCell ⟨gv, k * 2 + 1, none⟩ B) := Kept.setCell (p := ⟨gv, k * 2 + 1, none⟩) (Kept.setCell (p := ⟨gv, k * 2, none⟩) (Kept.refl (fun q => q = gv) w') (fun _ => rfl) A) (fun _ => rfl) B
  refine ⟨⟨_, setAt (setAt hc' _ _) _ _, by simpa using hn, fun i hi hki => ?_⟩, h.ge, h.up, fun i hi hki => ?_, fun i hi hki => ?_⟩
  · obtain ⟨e1, e2⟩ := he i hi (by omega)
    rw [Array.getElem?_setIfInBounds_ne (by omega), Array.getElem?_setIfInBounds_ne (by omega), Array.getElem?_setIfInBounds_ne (by omega), Array.getElem?_setIfInBounds_ne (by omega)]
    exact ⟨e1, e2⟩
  · have u1 := h.up (k * 2) (i * 2) (by omega) (by omega)
    have u2 := h.up (k * 2 + 1) (i * 2) (by omega) (by omega)
    have := hgv i hi (by omega)
    exact ks.row (hw.row (h.one i hi (by omega)) (fun q e => by simp only [Value.ownBlock, Option.some.injEq] at e; omega)) (fun q e => by simp only [Value.ownBlock, Option.some.injEq] at e; omega)
  · have u1 := h.up (k * 2) (i * 2 + 1) (by omega) (by omega)
    have u2 := h.up (k * 2 + 1) (i * 2 + 1) (by omega) (by omega)
    have := hgv i hi (by omega)
    exact ks.row (hw.row (h.two i hi (by omega)) (fun q e => by simp only [Value.ownBlock, Option.some.injEq] at e; omega)) (fun q e => by simp only [Value.ownBlock, Option.some.injEq] at e; omega)
end Go.Proofs.YtlemcinjalepkaaGreat
/- The walk of ref07.Own. -/
namespace Go.Proofs.YtlemcinjalepkaaGreat
set_option maxRecDepth 100000
set_option linter.unusedVariables false
open Go.RowKit
attribute [local go_sem ↓] Go.wp_at_zero Go.wp_at_succ
/-- append of numbers to an empty list of the call's own, at a step of a region that draws its order. -/
theorem step_ownT {wb W : World} {ops : Array Oper} {o : Oper} {a : Act} {K : Act → World → Prop} {Q : Exit → Act → World → Prop} {E : Prop} (hgd : o.guard = none) (s x : Operand)
    (ho : o.op = .call { callee := .builtin .append, args := #[s, x], argTypes := #[47, 47] })
    (B : Nat) (hs : a.eval s = .slice (some ⟨B, 0, none⟩) 0 0) (ys : List Int) (ad : Addr) (c : Nat) (hx : a.eval x = .slice (some ad) ys.length c)
    (hW : Same0 wb W) (hB : W.heap[B]? = some (.cells #[] 3 (0, 0))) (hb : wb.heap.size ≤ B) (hy : IntsAt wb (some ad) ys) (hn : 0 < ys.length) (hsz : ys.length ≤ 2000)
    (h : ∀ g cap w', TmAt w' g cap ys → wb.heap.size ≤ g → Same0 wb w' → (∀ g2 c2 zs, TmAt W g2 c2 zs → 0 < zs.length → TmAt w' g2 c2 zs) → (∀ q o, q ≠ B → W.heap[q]? = some o → w'.heap[q]? = some o) → K (a.put o.dst (.slice (some ⟨g, 0, none⟩) ys.length cap)) w') :
    if Region.wanted o (yielded ops a.tmps) = true then Oper.wp Tryz.prog o a W K Q else E := by
  obtain ⟨i, hi, hz0, hz1, hz2⟩ := info_parts info_intT
  have hBl := lt_of_at hB
  refine step_append_lies _ hgd s x 47 ho wb.heap.size 3 i _ 1 8 Tryz.underlying47 hi hz0 hz1 hz2 rfl (by decide) (.slice (some ⟨B, 0, none⟩) 0 0) 0 [] hs ⟨rfl, .inr ⟨B, 0, #[], rfl, hb, hB, Nat.le_refl _, by unfold maxLen; omega, rfl, rfl⟩⟩ ad ys.length c (iv ys) hx (by rw [iv_length]; omega) (fun j u hj => ?_) (iv_oneCell ys) hn (by unfold maxLen; omega) (by omega) hW.size W.heap.size rfl ?_
  · obtain ⟨ad', e, hc⟩ := (hy.same hW).src (by have := (List.getElem?_eq_some_iff.1 hj).1; omega)
    cases e
    exact hc j u hj
  · intro g cap w' hown hgrow hat hlt
    have k : Kept (fun k => k = B) W w' := Kept.grown (Kept.refl _ W) hgrow (fun _ e _ => by simp only [Value.ownBlock, Option.some.injEq] at e; exact e.symm)
    simp only [Nat.zero_add, List.nil_append] at hown ⊢
    refine h g cap w' ?_ (by rcases hat with e | e; · simp only [Value.ownBlock, Option.some.injEq] at e; omega
                             · have := hW.size; omega) (hW.trans (Kept.mono k (fun i hi e => e)) (fun i hi e => by omega)) (fun g2 c2 zs ht hz => ?_) (fun q o hq ho => k.at ho hq)
    · refine ⟨hown.1, .inr ?_⟩
      rcases hown.2 with ⟨e, _⟩ | ⟨g', c', cur, e, _, r⟩
      · cases e
      · cases e
        exact ⟨g, cap, cur, rfl, Nat.le_refl _, r⟩
    · refine k.row ht (fun q e hq => ?_)
      rcases ht.2 with ⟨e0, _⟩ | ⟨g', c', cur, e1, _, hg, h1, h2, h3, h4⟩
      · cases e0
      · cases e1
        simp only [Value.ownBlock, Option.some.injEq] at e
        subst e; subst hq
        rw [hB] at hg
        cases hg
        simp at h3
        omega
set_option maxHeartbeats 8000000 in
theorem rown_any {w : World} {a1 a2 : Addr} {ac bc : Nat} {x : Ru} (h1 : IntsAt w (some a1) x.1) (h2 : IntsAt w (some a2) x.2) (p1 : 0 < x.1.length) (p2 : 0 < x.2.length) (m1 : x.1.length ≤ 2000) (m2 : x.2.length ≤ 2000) :
    Calls Tryz.prog 68 #[.agg #[.slice (some a1) x.1.length ac, .slice (some a2) x.2.length bc]] w fun e w' => ∃ g c g' c', e = .returned (.agg #[.slice (some ⟨g, 0, none⟩) x.1.length c, .slice (some ⟨g', 0, none⟩) x.2.length c']) ∧ TmAt w' g c x.1 ∧ TmAt w' g' c' x.2 ∧ w.heap.size ≤ g ∧ w.heap.size ≤ g' ∧ Same0 w w' := by
  obtain ⟨wb, hwb⟩ : ∃ wb, wb = (w.alloc (.cells #[.slice (some a1) x.1.length ac, .slice (some a2) x.2.length bc] 73)).alloc (.cells #[.slice none 0 0, .slice none 0 0] 73) := ⟨_, rfl⟩
  have K0 : Same0 w wb := by rw [hwb]; exact ((Kept.refl _ w).alloc _).alloc _
  have z0 : wb.heap.size = w.heap.size + 2 := by rw [hwb]; simp
  have B0 : wb.heap[w.heap.size]? = some (.cells #[.slice (some a1) x.1.length ac, .slice (some a2) x.2.length bc] 73 (0, 0)) := by rw [hwb]; exact heap_alloc2_old _ _ _
  have B1 : wb.heap[w.heap.size + 1]? = some (.cells #[.slice none 0 0, .slice none 0 0] 73 (0, 0)) := by rw [hwb]; exact heap_al_al _ _ _
  have HS : Hid (∀ ww, Same0 wb ww → (ww.cell? ⟨w.heap.size, 0, none⟩ = some (.slice (some a1) x.1.length ac) ∧ ww.cell? ⟨w.heap.size, 1, none⟩ = some (.slice (some a2) x.2.length bc)) ∧ (ww.cell? ⟨w.heap.size + 1, 0, none⟩ = some (.slice none 0 0) ∧ ww.cell? ⟨w.heap.size + 1, 1, none⟩ = some (.slice none 0 0)) ∧ ww.frozen? ⟨w.heap.size + 1, 0, none⟩ = false ∧ ww.frozen? ⟨w.heap.size + 1, 1, none⟩ = false) := fun ww hk => ⟨⟨cellAt (hk.at0 B0) 0, cellAt (hk.at0 B0) 1⟩, ⟨cellAt (hk.at0 B1) 0, cellAt (hk.at0 B1) 1⟩, frozenAt (hk.at0 B1) 0, frozenAt (hk.at0 B1) 1⟩
  have HEnd : Hid (∀ ww (A B : Value), Same0 wb ww → Same0 w ((ww.setCell ⟨w.heap.size + 1, 0, none⟩ A).setCell ⟨w.heap.size + 1, 1, none⟩ B)) := fun ww A B hk => ((K0.trans' hk).setCell (fun h => absurd h (by simp)) _).setCell (fun h => absurd h (by simp)) _
  have HT : Hid (∀ ww g c xs (A B : Value), TmAt ww g c xs → wb.heap.size ≤ g → TmAt ((ww.setCell ⟨w.heap.size + 1, 0, none⟩ A).setCell ⟨w.heap.size + 1, 1, none⟩ B) g c xs) := fun ww g c xs A B ht hg => by
    have k : Kept (fun k => k = w.heap.size + 1) ww ((ww.setCell ⟨w.heap.size + 1, 0, none⟩ A).setCell ⟨w.heap.size + 1, 1, none⟩ B) := Kept.setCell (p := ⟨w.heap.size + 1, 1, none⟩) (Kept.setCell (p := ⟨w.heap.size + 1, 0, none⟩) (Kept.refl (fun k => k = w.heap.size + 1) ww) (fun _ => rfl) A) (fun _ => rfl) B
    exact k.row ht (fun i e => by simp [Value.ownBlock] at e; omega)
  have HR : Hid (∀ ww (A B : Value), Same0 wb ww → ((ww.setCell ⟨w.heap.size + 1, 0, none⟩ A).setCell ⟨w.heap.size + 1, 1, none⟩ B).cell? ⟨w.heap.size + 1, 0, none⟩ = some A ∧ ((ww.setCell ⟨w.heap.size + 1, 0, none⟩ A).setCell ⟨w.heap.size + 1, 1, none⟩ B).cell? ⟨w.heap.size + 1, 1, none⟩ = some B) := fun ww A B hk => by
    have b := setAt (setAt (hk.at0 B1) 0 A) 1 B
    exact ⟨cellAt b 0, cellAt b 1⟩
  have I1 := h1.same K0
  have I2 := h2.same K0
  obtain ⟨⟨c00, c01⟩, ⟨c10, c11⟩, f10, f11⟩ := HS.out wb (Kept.refl _ _)
  have HW : Hid (wb = (w.alloc (.cells #[.slice (some a1) x.1.length ac, .slice (some a2) x.2.length bc] 73)).alloc (.cells #[.slice none 0 0, .slice none 0 0] 73)) := hwb
  clear B0 B1 h1 h2 hwb
  go_enter Tryz.func68, Tryz.ntmps68
  go_wp2
  rw [← HW.out]
  have E0 : (wb.alloc (.cells #[] 3)).heap[w.heap.size + 2]? = some (.cells #[] 3 (0, 0)) := by rw [← z0]; exact heap_alloc_new _ _
  have E1 : ((wb.alloc (.cells #[] 3)).alloc (.cells #[] 3)).heap[w.heap.size + 2]? = some (.cells #[] 3 (0, 0)) := by rw [← z0]; exact heap_alloc2_old _ _ _
  have E2 : ((wb.alloc (.cells #[] 3)).alloc (.cells #[] 3)).heap[w.heap.size + 3]? = some (.cells #[] 3 (0, 0)) := by have := heap_alloc_new (wb.alloc (.cells #[] 3)) (.cells #[] 3 (0, 0)); rw [World.size_alloc, z0] at this; exact this
  have HE : Hid ((wb.alloc (.cells #[] 3)).heap[w.heap.size + 2]? = some (.cells #[] 3 (0, 0)) ∧ ((wb.alloc (.cells #[] 3)).alloc (.cells #[] 3)).heap[w.heap.size + 2]? = some (.cells #[] 3 (0, 0)) ∧ ((wb.alloc (.cells #[] 3)).alloc (.cells #[] 3)).heap[w.heap.size + 3]? = some (.cells #[] 3 (0, 0))) := ⟨E0, E1, E2⟩
  have hz0 : Hid (wb.heap.size = w.heap.size + 2) := z0
  clear E0 E1 E2
  rename_i QQ KK hKK
  have FIN : Hid (∀ (t0 t1 t3 t4 t5 t6 t7 t8 t9 t10 t11 : Value) (w2 : World) (g c g' c' : Nat), Same0 wb w2 → TmAt w2 g c x.1 → TmAt w2 g' c' x.2 → wb.heap.size ≤ g → wb.heap.size ≤ g' → KK { tmps := #[t0, t1, .pointer (some ⟨w.heap.size + 1, 0, none⟩), t3, t4, t5, t6, t7, t8, t9, t10, t11], defers := [] } ((w2.setCell ⟨w.heap.size + 1, 0, none⟩ (.slice (some ⟨g, 0, none⟩) x.1.length c)).setCell ⟨w.heap.size + 1, 1, none⟩ (.slice (some ⟨g', 0, none⟩) x.2.length c'))) := by
    intro t0 t1 t3 t4 t5 t6 t7 t8 t9 t10 t11 w2 g c g' c' S3 T5 T3 G1 G3
    apply hKK
    clear HS I1 I2
    go_wp2
    exact bodyPost_ret (v := .agg #[.slice (some ⟨g, 0, none⟩) x.1.length c, .slice (some ⟨g', 0, none⟩) x.2.length c']) (by obtain ⟨r0, r1⟩ := HR.out w2 (.slice (some ⟨g, 0, none⟩) x.1.length c) (.slice (some ⟨g', 0, none⟩) x.2.length c') S3; simp [results, Tryz.results68, go_sem, r0, r1]) rfl ⟨g, c, g', c', rfl, HT.out _ _ _ _ _ _ T5 G1, HT.out _ _ _ _ _ _ T3 G3, by omega, by omega, HEnd.out _ _ _ S3⟩
  clear HR HT HEnd
  go_region_law (first
    | (have T2 := T1; have hz := hz0.out; have hzz := S1.size; refine step_ownT (wb := wb) (by rfl) _ _ (by rfl) _ (by rfl) x.2 a2 bc (by rfl) (by first | exact S1 | exact S1.alloc _) (by first | exact heap_alloc_new _ _ | exact X2 | exact X3) (by omega) I2 p2 m2 ?_; intro g' c' w2 T3 G3 S3 T4 _; obtain ⟨⟨e00, e01⟩, ⟨e10, e11⟩, y10, y11⟩ := HS.out w2 S3; have T5 := T4 _ _ _ (by first | exact T2 | exact T2.same ((Kept.refl _ _).alloc _)) p1)
    | (have hz := hz0.out; refine step_ownT (wb := wb) (by rfl) _ _ (by rfl) _ (by rfl) x.1 a1 ac (by rfl) (by first | exact ((Kept.refl _ wb).alloc _).drew | exact (((Kept.refl _ wb).alloc _).alloc _).drew | exact (Kept.refl _ wb).drew.alloc _ | exact ((Kept.refl _ wb).drew.alloc _).alloc _) (by first | exact HE.out.1 | exact HE.out.2.1 | exact HE.out.2.2) (by omega) I1 p1 m1 ?_; intro g c w1 T1 G1 S1 T0 KQ; obtain ⟨⟨e00, e01⟩, ⟨e10, e11⟩, y10, y11⟩ := HS.out w1 S1; obtain ⟨⟨_, e01'⟩, _⟩ := HS.out _ (S1.alloc (.cells #[] 3)); (try have X2 := KQ (w.heap.size + 2) _ (by omega) HE.out.2.1); (try have X3 := KQ (w.heap.size + 3) _ (by omega) HE.out.2.2); clear hz KQ T0))
  all_goals exact FIN.out _ _ _ _ _ _ _ _ _ _ _ w2 g c g' c' S3 T5 T3 G1 G3
end Go.Proofs.YtlemcinjalepkaaGreat
