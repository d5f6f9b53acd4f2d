/- The walk of LexJoins where both texts are taken; and LexJoins whole. -/
import Derived.Test.YtecbfnaeglkbaaaJoins2
namespace Go.Proofs.Ytecbfnaeglkbaaa
open Go.RowKit
set_option linter.unusedVariables false
def shTok (d : Nat) (x : Tok) : Tok := ⟨x.kind, x.at' + d, x.text⟩
theorem take_snoc' {l : List Tok} {k : Nat} (h : k < l.length) : l.take (k + 1) = l.take k ++ [l[k]] := List.take_succ_eq_append_getElem h
theorem take_last {l : List Tok} {k : Nat} (h : k + 1 = l.length) : l.take k = l.dropLast := by
  rw [List.dropLast_eq_take]; congr 1; omega
theorem wpList_tok2 {w0 : World} {ops : Array Oper} {rest : List Oper} {o : Oper} {a : Act} {Q : Exit → Act → World → Prop} (hgd : o.guard = none) (s x : Operand)
    (ho : o.op = .call { callee := .builtin .append, args := #[s, x], argTypes := #[25, 25] })
    (base : Nat) (l : List Tok) (v : Value) (hs : a.eval s = v) (hr : TRow base w0 v l) (kz az : Int) (sz : ByteArray) (y : Tok) (hy : tokV y = [.int .i64 kz, .int .i64 az, .string sz]) (N : Nat) (hN : w0.heap.size = N) (hx : a.eval x = .slice (some ⟨N, 0, none⟩) 1 1) (hb : base ≤ w0.heap.size) (hsz : l.length ≤ 100000)
    (h : ∀ g cap w', TRow base w' (.slice (some ⟨g, 0, none⟩) (l.length + 1) cap) (l ++ [y]) → Kept (fun k => v.ownBlock = some k) w0 w' → (v.ownBlock = some g ∨ w0.heap.size ≤ g) → wpList Try.prog ops Q rest (a.put o.dst (.slice (some ⟨g, 0, none⟩) (l.length + 1) cap)) w') :
    wpList Try.prog ops Q (o :: rest) a (w0.alloc (.cells #[.int .i64 kz, .int .i64 az, .string sz] 40)) := by
  subst hN
  exact wpList_tok hgd s x ho base l v hs hr kz az sz y hy hx hb hsz h
set_option maxRecDepth 100000 in
set_option maxHeartbeats 2000000 in
theorem joins_ok (a b : ByteArray) (w : World) (h : a.size + 1 + b.size ≤ 20000) {l m : List Tok} (hRa : lexF 0 a.data.toList = .ok l) (hRb : lexF 0 b.data.toList = .ok m) : Calls Try.prog 5 #[.string a, .string b] w fun e w' => e = .returned (.bool true) ∧ Below w.heap.size w w' := by
  have m1 : a.size ≤ maxLen := by unfold maxLen; omega
  have m2 : b.size ≤ maxLen := by unfold maxLen; omega
  have hcat : (a ++ ⟨#[10]⟩ ++ b : ByteArray).data.toList = a.data.toList ++ 10 :: b.data.toList := by simp
  have m3 : (a ++ ⟨#[10]⟩ ++ b : ByteArray).size ≤ maxLen := by rw [size_list, hcat]; simp only [List.length_append, List.length_cons, ← size_list]; unfold maxLen; omega
  have d1 : decide ((20000 : Int) < (a.size : Int)) = false := by simp; omega
  have d1' : ((20000 : Int) < (a.size : Int)) = False := by simp; omega
  have d2 : decide ((20000 : Int) < (b.size : Int)) = false := by simp; omega
  have d2' : ((20000 : Int) < (b.size : Int)) = False := by simp; omega
  have d3 : decide ((20000 : Int) < (a.size : Int) + 1 + (b.size : Int)) = false := by simp; omega
  have d3' : ((20000 : Int) < (a.size : Int) + 1 + (b.size : Int)) = False := by simp; omega
  go_enter Try.func5, Try.ntmps5
  go_upto_region 5 with (first | (go_at_call 7; refine (awake_any _).mono ?_; rintro e w1 ⟨rfl, k1⟩) | (go_at_call 9; refine (scan_any _ _ m1).mono ?_; rintro e w2 ⟨x, ea, rfl, t2, k2⟩))
  go_upto_region 6 with (go_at_call 9; refine (scan_any _ _ m2).mono ?_; rintro e w3 ⟨y, eb, rfl, t3, k3⟩)
  go_upto_region 7 with (go_at_call 9; refine (scan_any _ _ m3).mono ?_; rintro e w4 ⟨z, eg, rfl, t4, k4⟩)
  have T1 := (t2.same k3).same k4
  have T2 := t3.same k4
  have T3 := t4
  rw [scan_le (by omega)] at T1 T2
  rw [join_scan hcat h] at T3
  have K4 : Same0 w w4 := ((k1.trans' k2).trans' k3).trans' k4
  have z3 : w2.heap.size ≤ w3.heap.size := k3.size
  clear t2 t3 t4 k1 k2 k3 k4
  have WA := lexF_within (s := a) (by omega)
  have WB := lexF_within (s := b) (by omega)
  rw [hRa] at T1 T3 WA
  rw [hRb] at T2 T3 WB
  obtain ⟨hrl, rfl⟩ := T1
  obtain ⟨hrm, rfl⟩ := T2
  obtain ⟨hrz, rfl⟩ := T3
  obtain ⟨hl0, hl1, hl2⟩ := WA
  obtain ⟨hm0, hm1, hm2⟩ := WB
  have hnn := fun W => nil_nil W
  have hnne := fun W => nil_nil_ne W
  have hlp : 0 < l.length := by cases l with | nil => exact absurd rfl hl0 | cons x r => simp
  obtain ⟨xo, xc, rfl⟩ := row_shape hrl
  obtain ⟨yo, yc, rfl⟩ := row_shape hrm
  have HM2 : Hid (∀ x ∈ m, x.at' ≤ b.size) := hm2
  have HZ0 : Hid (TRow w3.heap.size w4 z (l.dropLast ++ m.map (shTok (a.size + 1)))) := hrz
  clear hm2 hl2 hl0 hm0 hrz
  go_quiet (fail)
  obtain ⟨w5, hw5⟩ : ∃ w5, w4.drewN nq = w5 := ⟨_, rfl⟩
  have HL : Hid (TRow w1.heap.size w5 (.slice xo l.length xc) l) := by rw [← hw5]; exact hrl.same ((Kept.refl _ _).drewN nq)
  have HMr : Hid (TRow w2.heap.size w5 (.slice yo m.length yc) m) := by rw [← hw5]; exact hrm.same ((Kept.refl _ _).drewN nq)
  have HZ : Hid (TRow w3.heap.size w5 z (l.dropLast ++ m.map (shTok (a.size + 1)))) := by rw [← hw5]; exact HZ0.out.same ((Kept.refl _ _).drewN nq)
  have K5 : Same0 w w5 := by rw [← hw5]; exact Kept.drewN K4 nq
  rw [hw5]
  clear hw5 hrl hrm HZ0 K4
  go_wp2
  clear hnn hnne
  go_loopw [17, 18] (fun v i wr => ∃ k : Nat, k + 1 ≤ l.length ∧ i = .int .i64 (k : Int) ∧ TRow w5.heap.size wr v (l.take k) ∧ Same0 w5 wr) (fun _ i _ => l.length - (intOf i).toNat)
  case atStart => exact ⟨0, by omega, rfl, TRow.nil _ _, Kept.refl _ _⟩
  case round =>
    obtain ⟨k, hk, rfl, hr, hsm⟩ := hrel
    by_cases hlt : k + 1 < l.length
    · obtain ⟨g, rfl, _, _, x0, x1, x2⟩ := (HL.out.same hsm).get (i := k) (by omega)
      have i1 : (0 : Int) ≤ (k : Int) := by omega
      have i2 : (k : Int) < (l.length : Int) := by omega
      have i3 : (k : Int) + 1 < (l.length : Int) := by omega
      have hlen0 : (l.take k).length ≤ 100000 := by simp; omega
      have htk0 : l.take (k + 1) = l.take k ++ [l[k]] := take_snoc' (by omega)
      obtain ⟨P, hP⟩ : ∃ P, l.take k = P := ⟨_, rfl⟩
      rw [hP] at hr hlen0 htk0
      have hlen : P.length ≤ 100000 := hlen0
      have htk : Hid (l.take (k + 1) = P ++ [l[k]]) := htk0
      have hbs := hsm.size
      clear hP htk0 hlen0
      go_wp2_with (first | (at_builtin; refine wpList_tok rfl _ _ rfl w5.heap.size P _ rfl hr (l[k].kind : Int) (l[k].at' : Int) (txt l[k].text) l[k] rfl rfl hbs hlen ?_; intro g2 gcap w6 hr6 hk6 hat6))
      refine ⟨⟨k + 1, by omega, by go_num, ?_, hsm.trans hk6 (fun i hi e => by have := (hr.own e).1; omega)⟩, by simp [intOf]; omega⟩
      rw [htk.out]; exact hr6
    · have hk1 : k + 1 = l.length := by omega
      have i3 : ¬ (k : Int) + 1 < (l.length : Int) := by omega
      rw [take_last hk1] at hr
      have HR : Hid (TRow w5.heap.size wr u17 l.dropLast) := hr
      obtain ⟨wo, rfl⟩ : ∃ wo, wo = wr := ⟨_, rfl⟩
      have hbs0 := hsm.size
      clear hr
      go_wp2
      go_loopw [17, 19] (fun v i wr => ∃ k : Nat, k ≤ m.length ∧ i = .int .i64 (k : Int) ∧ TRow w5.heap.size wr v (l.dropLast ++ (m.take k).map (shTok (a.size + 1))) ∧ Same0 w5 wr) (fun _ i _ => m.length - (intOf i).toNat)
      case atStart => exact ⟨0, Nat.zero_le _, rfl, by simpa using HR.out, hsm⟩
      case round =>
        obtain ⟨q, hq, rfl, hr2, hsm2⟩ := hrel
        by_cases hlt2 : q < m.length
        · obtain ⟨g, rfl, _, hglt, x0, x1, x2⟩ := (HMr.out.same hsm2).get (i := q) hlt2
          have j1 : (0 : Int) ≤ (q : Int) := by omega
          have j2 : (q : Int) < (m.length : Int) := by omega
          have hat' := HM2.out m[q] (List.getElem_mem hlt2)
          have hlen0 : (l.dropLast ++ (m.take q).map (shTok (a.size + 1))).length ≤ 100000 := by simp; omega
          have htk0 : l.dropLast ++ (m.take (q + 1)).map (shTok (a.size + 1)) = (l.dropLast ++ (m.take q).map (shTok (a.size + 1))) ++ [shTok (a.size + 1) m[q]] := by rw [take_snoc' hlt2, List.map_append, ← List.append_assoc]; rfl
          obtain ⟨P, hP⟩ : ∃ P, l.dropLast ++ (m.take q).map (shTok (a.size + 1)) = P := ⟨_, rfl⟩
          rw [hP] at hr2 hlen0 htk0
          have hlen : P.length ≤ 100000 := hlen0
          have htk : Hid (l.dropLast ++ (m.take (q + 1)).map (shTok (a.size + 1)) = P ++ [shTok (a.size + 1) m[q]]) := htk0
          have hbs := hsm2.size
          clear hP htk0 hlen0
          have hr3 : TRow w5.heap.size (wr.alloc (.cells #[.int .i64 (m[q].kind : Int), .int .i64 ((m[q].at' : Int) + ((a.size : Int) + 1)), .string (txt m[q].text)] 40)) u17 P := hr2.same (Kept.alloc (Kept.refl _ _) _)
          have hbs3 : w5.heap.size ≤ (wr.alloc (.cells #[.int .i64 (m[q].kind : Int), .int .i64 ((m[q].at' : Int) + ((a.size : Int) + 1)), .string (txt m[q].text)] 40)).heap.size := (Kept.alloc hsm2 _).size
          have hv : Hid (tokV (shTok (a.size + 1) m[q]) = [.int .i64 (m[q].kind : Int), .int .i64 ((m[q].at' : Int) + ((a.size : Int) + 1)), .string (txt m[q].text)]) := by
            show _ = _
            simp [tokV, shTok]
          go_wp2_with (first | (at_builtin; refine wpList_tok2 (w0 := wr.alloc (.cells #[.int .i64 (m[q].kind : Int), .int .i64 ((m[q].at' : Int) + ((a.size : Int) + 1)), .string (txt m[q].text)] 40)) rfl _ _ rfl w5.heap.size P u17 rfl hr3 (m[q].kind : Int) ((m[q].at' : Int) + ((a.size : Int) + 1)) (txt m[q].text) (shTok (a.size + 1) m[q]) hv.out (wr.heap.size + 1) (by simp) rfl hbs3 hlen ?_; intro g2 gcap w6 hr6 hk6 hat6))
          refine ⟨⟨q + 1, by omega, by go_num, ?_, (Kept.alloc hsm2 _).trans hk6 (fun i hi e => by have := (hr2.own e).1; omega)⟩, by simp [intOf]; omega⟩
          rw [htk.out]; exact hr6
        · obtain rfl : q = m.length := by omega
          have j2 : ¬ (m.length : Int) < (m.length : Int) := by omega
          rw [List.take_length] at hr2
          have hz2 := HZ.out.same hsm2
          have hlen : (l.dropLast ++ m.map (shTok (a.size + 1))).length ≤ 100000 := by simp; omega
          have cT := tsame_any hz2 hr2 hlen
          clear hz2 hr2 hlen HZ HMr HL HR HM2
          go_wp2_with (go_at_call 11; refine cT.mono ?_; rintro e w7 ⟨rfl, m7, rfl⟩)
          go_ret
          exact ⟨rfl, (Same0.below (Kept.drewN (K5.trans' hsm2) m7))⟩
set_option maxHeartbeats 400000 in
theorem joins_any (a : ByteArray) (ha : a.size ≤ maxLen) (b : ByteArray) (hb : b.size ≤ maxLen) (w : World) : Calls Try.prog 5 #[.string a, .string b] w fun e w' => e = .returned (.bool true) ∧ Below w.heap.size w w' := by
  by_cases h : a.size + 1 + b.size ≤ 20000
  · cases hRa : lexF 0 a.data.toList with
    | error e1 =>
      cases hRb : lexF 0 b.data.toList with
      | error e2 => exact joins_e1a a b w h (c := e1.1) (p := e1.2) (c2 := e2.1) (p2 := e2.2) hRa hRb
      | ok m => exact joins_e1b a b w h (c := e1.1) (p := e1.2) hRa hRb
    | ok l =>
      cases hRb : lexF 0 b.data.toList with
      | error e2 => exact joins_e2 a b w h (c := e2.1) (p := e2.2) hRa hRb
      | ok m => exact joins_ok a b w h hRa hRb
  · exact joins_long a ha b hb w (by omega)
end Go.Proofs.Ytecbfnaeglkbaaa
