import Derived.Test.YtlemcinjalepkaaGreatGTreeLeaves29
import Derived.Test.YtlemcinjalepkaaGreatGRule28
/- The walk of TreeLeaves. -/
namespace Go.Proofs.YtlemcinjalepkaaGreat
set_option maxRecDepth 100000
set_option linter.unusedVariables false
open Go.RowKit
attribute [local go_sem ↓] Go.wp_at_zero Go.wp_at_succ
theorem rootR_len (L : List Sym) (R : List Ru) (s : Nat) : (rootR L R s).length = (ofF (s : Int) 0 R).length := by simp [rootR, rowsOf]
theorem of_mem {L : List Sym} {R : List Ru} {s : Nat} {t : Tr 2001} (h : GL 2001 (rootR L R s) t) {y : Int} (hy : y ∈ ofF (s : Int) 0 R) : y ∈ rulesF 2001 t :=
  h.mem (kidX L 0 (y, (R.getD y.toNat ([], [])).1, [0])) (List.mem_map.2 ⟨_, List.mem_map.2 ⟨y, hy, rfl⟩, rfl⟩)
theorem err_ne0 (w : World) : (binOp .neq 37 .nilIface .nilIface).run Tryz.prog w = .ok (.bool false) w := by kernel_rfl
theorem err_ne1 (v : Value) (w : World) : (binOp .neq 37 (.iface 91 v) .nilIface).run Tryz.prog w = .ok (.bool true) w := by kernel_rfl
set_option maxHeartbeats 16000000 in
theorem leaves_walk {w : World} {ao : Option Addr} {len cap : Nat} {xs : List Sym} (hx : SymsAt w ao len xs) (hm : len ≤ maxLen) {po : Option Addr} {pc : Nat} {l : List Ru} (hp : ArgR w po l pc) :
    Calls Tryz.prog 7 #[.slice ao len cap, .slice po l.length pc] w fun e w' => e = .returned (.bool true) ∧ Below w.heap.size w w' := by
  have hn0 := err_ne0
  have hn1 := err_ne1
  have hpn := ptr_nil
  have hls : l.length ≤ 140737488355328 := by have := hp.size; omega
  have CA := awake8_any w
  have CS : Hid (∀ ww, Same0 w ww → Calls Tryz.prog 10 #[.slice ao len cap, .slice po l.length pc] ww (StoPost (madeL xs) l ww)) := fun ww hk => stored_any (SymsAt.same8 hx hk) hm (hp.at'.same hk) hls hp.cap'
  generalize madeL xs = L at *
  clear hx hp hm hls
  go_enter Tryz.func7, Tryz.ntmps7
  go_upto_region 2 with (first | (go_at_call 9; refine CA.mono ?_; rintro e w1 ⟨rfl, k1⟩))
  have C1 := CS.out w1 k1
  go_upto_region 3 with (first | (go_at_call 10; refine C1.mono ?_; rintro e w2 ⟨bs, b, m, ro, rc, lv, vs, mv, ms, R, rfl, hT, hR⟩))
  have K2 : Same0 w w2 := k1.trans' hT.same
  have hst := hT.st
  have hL64 : L.length ≤ 64 := by obtain ⟨⟨sv, mr, hs, _⟩, _⟩ := hst.sig; exact hs.len
  have hArs := hst.sig.2
  have hle := hst.le
  have hok := hst.ok
  have HST : Hid (∀ ww, Same0 w2 ww → StAt ww b bs L R lv vs) := fun ww hk => hst.same hk
  clear hT hR C1 CS CA hst k1
  go_wp2_with fail
  go_loopw [9] (fun i wr => ∃ f : Nat, f ≤ L.length ∧ i = .int .i64 (f : Int) ∧ Same0 w2 wr) (fun i _ => L.length - (intOf i).toNat)
  case atStart => exact ⟨0, Nat.zero_le _, rfl, Kept.refl _ _⟩
  case round =>
    obtain ⟨f, hf, rfl, hw⟩ := hrel
    have CL := sg_len (HST.out wr hw).sig
    by_cases hlt : f < L.length
    · have i2 : (f : Int) < (L.length : Int) := by omega
      have CB := build_any (HST.out wr hw) (f : Int)
      by_cases hd : defB L (f : Int) = true
      · cases ht : treeF L R f with
        | error z =>
          have CB2 : Calls Tryz.prog 11 #[.pointer (some ⟨b, 0, none⟩), .int .i64 (f : Int)] wr fun e w' => ∃ k, e = .returned (.tuple #[zeroC, .iface 91 (.pointer (some ⟨k, 0, none⟩))]) ∧ Same0 wr w' := by
            refine CB.mono ?_
            rintro e w' ⟨hk, h⟩
            rw [if_pos hd] at h
            simp only [Int.toNat_natCast] at h
            rw [ht] at h
            obtain ⟨v, rfl, hf⟩ := h
            rcases hf with ⟨q, _⟩ | ⟨_, k, u, e1, _⟩
            · omega
            · subst e1; exact ⟨k, rfl, hk⟩
          clear CB ht hd hok hArs
          go_wp2_with (first
            | (go_at_call 25; refine CL.mono ?_; rintro e w3 ⟨rfl, rfl⟩)
            | (go_at_call 11; refine CB2.mono ?_; rintro e w4 ⟨k, rfl, k4⟩))
          exact ⟨⟨f + 1, by omega, by go_num, Kept.alloc (hw.trans' k4) _⟩, by simp [intOf]; omega⟩
        | ok t =>
          have G : GL 2001 (rootR L R f) t := grow_GL hArs hL64 2001 _ _ t (root_ok hArs hle hok hlt) ht
          have hGn := rootR_len L R f
          have hG1 : (rulesF 2001 t).length = (ofF (f : Int) 0 R).length := by rw [G.len, hGn]
          have hGm : Hid (∀ y ∈ ofF (f : Int) 0 R, y ∈ rulesF 2001 t) := fun y hy => of_mem G hy
          have hGs := G.sm
          obtain ⟨N, hN⟩ : ∃ N, N = (ofF (f : Int) 0 R).length := ⟨_, rfl⟩
          have hN100 : N ≤ 100 := by rw [hN]; exact Nat.le_trans (ofF_len _ _ _) hle
          have hfl : (szT 2001 t).2.2 = if N = 0 then 1 else 0 := by rw [hN, ← hGn]; exact G.fl
          have hbr : (szT 2001 t).2.1 ≤ 2001 * N := by rw [hN, ← hGn]; exact G.br
          have hb0 : (szT 2001 t).2.1 = 0 → N ≤ 1 := by rw [hN, ← hGn]; exact G.b0
          have hlv : (szT 2001 t).1 = N := by rw [hN, ← hGn]; exact G.lv
          have hLe : Le3 (szT 2001 t) := ⟨by rw [hlv]; omega, by omega, by rw [hfl]; split <;> omega⟩
          have CB2 : Calls Tryz.prog 11 #[.pointer (some ⟨b, 0, none⟩), .int .i64 (f : Int)] wr fun e w' => ∃ tk tr tpo tpl tpc tko tkl tkc, e = .returned (.tuple #[.agg #[.int .i64 tk, .int .i64 tr, .slice tpo tpl tpc, .slice tko tkl tkc], .nilIface]) ∧ Hid (CsB (fun b => wr.heap.size ≤ b) w' 2001 (.agg #[.int .i64 tk, .int .i64 tr, .slice tpo tpl tpc, .slice tko tkl tkc]) t) ∧ Same0 wr w' := by
            refine CB.mono ?_
            rintro e w' ⟨hk, h⟩
            rw [if_pos hd] at h
            simp only [Int.toNat_natCast] at h
            rw [ht] at h
            obtain ⟨v, rfl, hc⟩ := h
            obtain ⟨tk, tr, tpo, tpl, tpc, tko, tkl, tkc, rfl⟩ := hc.shape
            exact ⟨tk, tr, tpo, tpl, tpc, tko, tkl, tkc, rfl, hc, hk⟩
          have HSZ : Hid ((szT 2001 t).2.2 = (if N = 0 then 1 else 0) ∧ ((szT 2001 t).2.1 = 0 → N ≤ 1) ∧ (szT 2001 t).2.1 ≤ 2001 * N) := ⟨hfl, hb0, hbr⟩
          have HOF : Hid (∀ ww, Same0 w2 ww → Calls Tryz.prog 26 #[.pointer (some ⟨b, 0, none⟩), .int .i64 (f : Int)] ww fun e w' => ∃ oo oc, e = .returned (.slice oo N oc) ∧ Hid (IntsAt w' oo (ofF (f : Int) 0 R)) ∧ Same0 ww w') := fun ww hk => (sof_any (HST.out ww hk) (f : Int)).mono (fun e w' ⟨v, e1, e2, e3⟩ => by
            obtain ⟨oo, oc, rfl, i1, _⟩ := e2.ints
            exact ⟨oo, oc, by rw [e1, hN], i1, e3⟩)
          have HRU : Hid (∀ ww v, CsB (fun b => b < ww.heap.size) ww 2001 v t → Calls Tryz.prog 20 #[v] ww fun e w' => ∃ lo lc, e = .returned (.slice lo N lc) ∧ Hid (IntsAt w' lo (rulesF 2001 t)) ∧ Same0 ww w') := fun ww v hc => (trules_any hc (by rw [hG1, ← hN]; omega) hGs).mono (fun e w' ⟨v, e1, e2, e3⟩ => by
            obtain ⟨lo, lc, rfl, i1, _⟩ := e2.ints
            exact ⟨lo, lc, by rw [e1, hG1, hN], i1, e3⟩)
          have HSI : Hid (∀ ww v, CsB (fun b => b < ww.heap.size) ww 2001 v t → Calls Tryz.prog 23 #[v] ww fun e w' => ∃ s1 s2 s3 : Nat, e = .returned (.tuple #[.int .i64 (s1 : Int), .int .i64 (s2 : Int), .int .i64 (s3 : Int)]) ∧ Hid (s3 = (if N = 0 then 1 else 0) ∧ (s2 = 0 → N ≤ 1) ∧ s2 ≤ 2001 * N) ∧ Same0 ww w') := fun ww v hc => (tsize_any hc hLe hGs).mono (fun e w' ⟨e1, e2⟩ => ⟨_, _, _, e1, HSZ.out, e2⟩)
          have HIN : Hid (∀ ww lo lc j, IntsAt ww lo (rulesF 2001 t) → (h : j < N) → ∀ y, (ofF (f : Int) 0 R)[j]? = some y → Calls Tryz.prog 27 #[.slice lo N lc, .int .i64 y] ww fun e w' => e = .returned (.bool true) ∧ w' = ww) := fun ww lo lc j hi h y hy => by
            have := rIn_any (cap := lc) hi y (by rw [hG1, ← hN]; unfold maxLen; omega)
            rw [hG1, ← hN] at this
            have e1 : inB (rulesF 2001 t) y = true := decide_eq_true (hGm.out y (List.mem_of_getElem? hy))
            rw [e1] at this
            exact this
          have HON : Hid (N = (ofF (f : Int) 0 R).length) := hN
          clear CB ht hd hok hArs G hGn hG1 hGm hGs hfl hbr hb0 hlv hLe hN HSZ
          go_upto_region 10 with (first
            | (go_at_call 25; refine CL.mono ?_; rintro e w3 ⟨rfl, rfl⟩)
            | (go_at_call 11; refine CB2.mono ?_; rintro e w4 ⟨tk, tr, tpo, tpl, tpc, tko, tkl, tkc, rfl, hcs, k4⟩))
          obtain ⟨w5, hw5⟩ : ∃ w5, w5 = w4.alloc (.cells #[.int .i64 tk, .int .i64 tr, .slice tpo tpl tpc, .slice tko tkl tkc] 35) := ⟨_, rfl⟩
          have k5 : Same0 w4 w5 := by rw [hw5]; exact (Kept.refl _ _).alloc _
          have K5 : Same0 w2 w5 := (hw.trans' k4).trans' k5
          have HC : Hid (∀ ww, Same0 w5 ww → ww.cell? ⟨w4.heap.size, 0, none⟩ = some (.int .i64 tk) ∧ ww.cell? ⟨w4.heap.size, 1, none⟩ = some (.int .i64 tr) ∧ ww.cell? ⟨w4.heap.size, 2, none⟩ = some (.slice tpo tpl tpc) ∧ ww.cell? ⟨w4.heap.size, 3, none⟩ = some (.slice tko tkl tkc)) := fun ww hk => by
            have h1 := hk.at0 (show w5.heap[w4.heap.size]? = some (.cells #[.int .i64 tk, .int .i64 tr, .slice tpo tpl tpc, .slice tko tkl tkc] 35 (0, 0)) by rw [hw5]; exact heap_alloc_new w4 _)
            exact ⟨cellAt h1 0, cellAt h1 1, cellAt h1 2, cellAt h1 3⟩
          have HCS : Hid (∀ ww, Same0 w5 ww → CsB (fun b => b < ww.heap.size) ww 2001 (.agg #[.int .i64 tk, .int .i64 tr, .slice tpo tpl tpc, .slice tko tkl tkc]) t) := fun ww hk => CsB.mono (fun b hb _ => hb) ((hcs.out.same k5).same hk)
          rw [← hw5]
          clear hw5 hcs CB2 k4 k5 CL hw
          obtain ⟨c0, c1, c2, c3⟩ := HC.out w5 (Kept.refl _ _)
          have C1 := HRU.out w5 _ (HCS.out w5 (Kept.refl _ _))
          go_upto_region 11 with (first | (go_at_call 20; refine C1.mono ?_; rintro e w6 ⟨lo, lc, rfl, hlo, k6⟩))
          have C2 := HOF.out w6 (K5.trans' k6)
          go_upto_region 12 with (first | (go_at_call 26; refine C2.mono ?_; rintro e w7 ⟨oo, oc, rfl, hoo, k7⟩))
          have K7 : Same0 w5 w7 := k6.trans' k7
          have HLO : Hid (∀ ww, Same0 w7 ww → IntsAt ww lo (rulesF 2001 t) ∧ IntsAt ww oo (ofF (f : Int) 0 R)) := fun ww hk => ⟨(hlo.out.same k7).same hk, hoo.out.same hk⟩
          clear c0 c1 c2 c3 C1 C2 hlo hoo k6 k7
          have eN : ((N : Int) == (N : Int)) = true := by simp
          go_wp2_with fail
          go_loopw [14] (fun i wr => ∃ j : Nat, j ≤ N ∧ i = .int .i64 (j : Int) ∧ wr = w7) (fun i _ => N - (intOf i).toNat)
          case atStart => exact ⟨0, Nat.zero_le _, rfl, rfl⟩
          case round =>
            obtain ⟨j, hj, rfl, rfl⟩ := hrel
            obtain ⟨hlo, hoo⟩ := HLO.out wr (Kept.refl _ _)
            by_cases hjl : j < N
            · have hjo : j < (ofF (f : Int) 0 R).length := by rw [← HON.out]; exact hjl
              obtain ⟨ob, ooff, rfl, hob, hoc⟩ := hoo.get hjo
              have C3 := HIN.out wr lo lc j hlo hjl (ofF (f : Int) 0 R)[j] (List.getElem?_eq_getElem hjo)
              generalize (ofF (f : Int) 0 R)[j] = y at *
              have i1 : (0 : Int) ≤ (j : Int) := by omega
              have i3 : (j : Int) < (N : Int) := by omega
              clear hlo hoo hjo
              go_wp2_with (first | (go_at_call 27; refine C3.mono ?_; rintro e w8 ⟨rfl, hw8⟩))
              exact ⟨⟨j + 1, by omega, by go_num, trivial⟩, by simp [intOf]; omega⟩
            · have hjN : j = N := by omega
              subst hjN
              obtain ⟨c0, c1, c2, c3⟩ := HC.out wr K7
              have C4 := HSI.out wr _ (HCS.out wr K7)
              clear hlo hoo
              go_upto_region 21 with (first | (go_at_call 23; refine C4.mono ?_; rintro e w9 ⟨s1, s2, s3, rfl, hsz, k9⟩))
              obtain ⟨z1, z2, z3⟩ := hsz.out
              have KF : Same0 w2 w9 := (K5.trans' K7).trans' k9
              clear C4 c0 c1 c2 c3 hsz HSI HIN HON HLO HRU HOF K7 hjl hj
              by_cases hN0 : j = 0
              · rw [if_pos hN0] at z1
                subst hN0
                have hs2 : s2 = 0 := by omega
                subst hs2 z1
                clear z2 z3 hN100 eN
                go_wp2_with fail
                exact ⟨⟨f + 1, by omega, by go_num, KF⟩, by simp [intOf]; omega⟩
              · rw [if_neg hN0] at z1
                subst z1
                have b1 : ((j : Int) == 0) = false := by simp; omega
                by_cases hs2 : s2 = 0
                · have := z2 hs2
                  obtain rfl : j = 1 := by omega
                  subst hs2
                  clear z2 z3 hN100 eN hN0
                  go_wp2_with fail
                  exact ⟨⟨f + 1, by omega, by go_num, KF⟩, by simp [intOf]; omega⟩
                · have b2 : ((s2 : Int) == 0) = false := by simp; omega
                  clear z2 z3 hN100 eN hN0
                  go_wp2_with fail
                  exact ⟨⟨f + 1, by omega, by go_num, KF⟩, by simp [intOf]; omega⟩
      · have CB2 : Calls Tryz.prog 11 #[.pointer (some ⟨b, 0, none⟩), .int .i64 (f : Int)] wr fun e w' => ∃ k, e = .returned (.tuple #[zeroC, .iface 91 (.pointer (some ⟨k, 0, none⟩))]) ∧ Same0 wr w' := by
          refine CB.mono ?_
          rintro e w' ⟨hk, h⟩
          rw [if_neg hd] at h
          obtain ⟨v, rfl, hf⟩ := h
          rcases hf with ⟨q, _⟩ | ⟨_, k, u, e1, _⟩
          · omega
          · subst e1; exact ⟨k, rfl, hk⟩
        clear CB hd hok hArs
        go_wp2_with (first
          | (go_at_call 25; refine CL.mono ?_; rintro e w3 ⟨rfl, rfl⟩)
          | (go_at_call 11; refine CB2.mono ?_; rintro e w4 ⟨k, rfl, k4⟩))
        exact ⟨⟨f + 1, by omega, by go_num, Kept.alloc (hw.trans' k4) _⟩, by simp [intOf]; omega⟩
    · obtain rfl : f = L.length := by omega
      go_wp2_with (first | (go_at_call 25; refine CL.mono ?_; rintro e w3 ⟨rfl, rfl⟩))
      go_ret
      exact ⟨rfl, (K2.trans' hw).below⟩
end Go.Proofs.YtlemcinjalepkaaGreat
