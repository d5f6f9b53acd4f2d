import Derived.Test.YthamjjhioafkjaaGreatGCodeViews13
import Derived.Test.YthamjjhioafkjaaGreatGCodeViews11
namespace Go.Proofs.YthamjjhioafkjaaGreat
set_option maxRecDepth 100000
set_option linter.unusedVariables false
open Go.RowKit
attribute [local go_sem ↓] Go.wp_at_zero Go.wp_at_succ
set_option maxHeartbeats 4000000 in
theorem overlap_any {w : World} {b bs : Nat} {ro : Option Addr} {rc : Nat} {L : List Sym} {R : List Ru} {lo : Option Addr} {l : List Ru} {n lc : Nat} (h : Cnd w b bs ro rc L R lo l n) (hlc : l.length ≤ lc) (hu : Upto L R l 7 n) :
    Calls Tryz.prog 145 #[.agg #[.pointer (some ⟨b,0,none⟩),.slice lo l.length lc,.int .i64 (n : Int)]] w fun e w' => ∃ v,e = .returned v ∧ FltAt w' (askW L R l 7 n) v ∧ Same0 w w' := by
  obtain ⟨lb, off, ao, ac, bo, bc, x, rfl, hx, W0, CC0, HS, HA, CR, CU⟩ := h.opened lc
  have W1 : Same0 (w.alloc (.cells #[.pointer (some ⟨b, 0, none⟩), .slice (some ⟨lb, off, none⟩) l.length lc, .int .i64 (n : Int)] 202)) (w.alloc (.cells #[.pointer (some ⟨b, 0, none⟩), .slice (some ⟨lb, off, none⟩) l.length lc, .int .i64 (n : Int)] 202)).drew := Kept.drew (Kept.refl _ _)
  have f0 := field_left
  have f1 := field_right
  have CF : Hid (∀ ww why c, (why = .nilIface ∨ ∃ t v, why = .iface t v) → Same0 (w.alloc (.cells #[.pointer (some ⟨b, 0, none⟩), .slice (some ⟨lb, off, none⟩) l.length lc, .int .i64 (n : Int)] 202)) ww → Calls Tryz.prog 162 #[.agg #[.pointer (some ⟨b, 0, none⟩), .slice (some ⟨lb, off, none⟩) l.length lc, .int .i64 (n : Int)], .int .i64 c, why] ww fun e w' => ∃ k, e = .returned (.iface 106 (.pointer (some ⟨k, 0, none⟩))) ∧ w'.heap[k]? = some (.cells #[.int .i64 c, .int .i64 (n : Int), why] 108 (0, 0)) ∧ Same0 ww w' ∧ Same0 (w.alloc (.cells #[.pointer (some ⟨b, 0, none⟩), .slice (some ⟨lb, off, none⟩) l.length lc, .int .i64 (n : Int)] 202)) w') := fun ww why c hw hk => (fault_any ww b _ _ _ why hw n c).mono (fun e w' ⟨k, q1, q2, q3⟩ => ⟨k, q1, q2, q3, hk.trans' q3⟩)
  have hxc : checkE L x.1 = 0 := by
    have := hu.1 1 (by omega) n h.hn
    simp only [ckB, askB, ← hx, Bool.and_eq_true, decide_eq_true_eq] at this
    exact this.1
  have hnn := h.hn
  have hN : R.length + l.length ≤ 100 := by
    have := hu.1 0 (by omega) n h.hn
    simpa [ckB, askB] using this
  obtain ⟨A, hA⟩ : ∃ A, A = R ++ l.take n := ⟨_, rfl⟩
  have hAl : A.length = R.length + n := by rw [hA]; simp; omega
  have hAc : ∀ a ∈ A, checkE L a.1 = 0 := fun a ha => by
    rw [hA] at ha
    rcases List.mem_append.1 ha with q | q
    · exact h.st.ok a q
    · obtain ⟨i, hi, rfl⟩ := List.mem_iff_getElem.1 q
      have hi' : i < l.length := by simp at hi; omega
      have := hu.1 1 (by omega) i hi'
      simp only [ckB, askB, Bool.and_eq_true, decide_eq_true_eq] at this
      simpa [List.getD, hi'] using this.1
  have E0 : Hid (A.all (fun a => !meetB L a.1 x.1) = true → askW L R l 7 n = [(0, -1)]) := fun q => by simp only [askW, ckB, askB, ← hx, ← hA, q]; rfl
  have E1 : Hid (∀ k (hk : k < A.length), (A.take k).all (fun a => !meetB L a.1 x.1) = true → meetB L A[k].1 x.1 = true → askW L R l 7 n = [(77, (n : Int)), (78, (k : Int))]) := fun k hk q1 q2 => by
    have e1 : A.all (fun a => !meetB L a.1 x.1) = false := by
      cases h : A.all (fun a => !meetB L a.1 x.1) with
      | false => rfl
      | true => have := List.all_eq_true.1 h _ (List.getElem_mem hk); rw [q2] at this; cases this
    have e2 : A.findIdx (fun a => meetB L a.1 x.1) = k := (List.findIdx_eq hk).2 ⟨q2, fun j hj => by
      have := List.all_eq_true.1 q1 (A[j]'(by omega)) (by
        refine List.mem_iff_getElem.2 ⟨j, by simp; omega, by simp⟩)
      simpa using this⟩
    simp only [askW, ckB, askB, wrongL, ← hx, ← hA, e1, e2]
    rfl
  have hRl := h.st.le
  have HM : Hid (RsAt (w.alloc (.cells #[.pointer (some ⟨b, 0, none⟩), .slice (some ⟨lb, off, none⟩) l.length lc, .int .i64 (n : Int)] 202)) (some ⟨lb, off, none⟩) (l.take n)) := by
    rcases h.ls.same W0 with e | ⟨b', off', e, hb', hc'⟩
    · rw [e] at hnn; simp at hnn
    · refine .inr ⟨b', off', e, hb', fun i hi => ?_⟩
      have hi' : i < l.length := by simp at hi; omega
      have := hc' i hi'
      simpa using this
  have hst := h.st.same W0
  have htl : (l.take n).length = n := by simp; omega
  have CCat : Hid (∀ ww g sl, sl = n → Same0 (w.alloc (.cells #[.pointer (some ⟨b, 0, none⟩), .slice (some ⟨lb, off, none⟩) l.length lc, .int .i64 (n : Int)] 202)) ww → ww.heap[g]? = some (.cells #[.slice ro R.length rc, .slice (some ⟨lb, off, none⟩) sl lc] 37 (0, 0)) → Calls Tryz.prog 167 #[.slice (some ⟨g, 0, none⟩) 2 2] ww fun e w' => ∃ vo vc, e = .returned (.slice vo A.length vc) ∧ RsAt w' vo A ∧ Same0 (w.alloc (.cells #[.pointer (some ⟨b, 0, none⟩), .slice (some ⟨lb, off, none⟩) l.length lc, .int .i64 (n : Int)] 202)) w') := fun ww g sl e hk hg => by
    subst e
    have := concat_any (M := l.take sl) (lc := lc) (by rw [htl]; exact hg) (hst.rs.same hk) (HM.out.same hk) hst.nil (fun e => by cases e) hRl (by rw [htl]; omega)
    rw [← hA] at this
    exact this.mono (fun e w' ⟨vo, vc, q1, q2, q3⟩ => ⟨vo, vc, q1, q2, hk.trans' q3⟩)
  have j1 : (0 : Int) ≤ (n : Int) := by omega
  have j2 : (n : Int) ≤ (lc : Int) := by omega
  have hAm : A.length ≤ 200 := by omega
  have HL : Hid (A.length = R.length + n) := hAl
  clear h hu hx hst htl HM hA hAl
  go_enter Tryz.func145, Tryz.ntmps145
  go_wp2
  go_region_held3 (fun w' => (w'.cell? ⟨b, 0, none⟩ = some (.pointer (some ⟨bs, 0, none⟩)) ∧ w'.cell? ⟨b, 1, none⟩ = some (.slice ro R.length rc)) ∧ (w'.cell? ⟨w.heap.size, 0, none⟩ = some (.pointer (some ⟨b, 0, none⟩)) ∧ w'.cell? ⟨w.heap.size, 1, none⟩ = some (.slice (some ⟨lb, off, none⟩) l.length lc) ∧ w'.cell? ⟨w.heap.size, 2, none⟩ = some (.int .i64 (n : Int))) ∧ w'.cell? ⟨lb, off + n * 2, none⟩ = some (.slice ao x.1.length ac) ∧ w'.cell? ⟨lb, off + n * 2 + 1, none⟩ = some (.slice bo x.2.length bc)) (first | exact cc1 | exact CC0 | exact HS.out _ (Kept.alloc (Kept.refl _ _) _) | exact HS.out _ (Kept.drew (Kept.alloc (Kept.refl _ _) _))) (first | (go_at_call 167; refine (CCat.out _ _ _ rfl (Kept.drew (Kept.alloc (Kept.refl _ _) _)) (heap_al_al _ _ _)).mono ?_; rintro e w1 ⟨vo, vc, rfl, hro, hw1⟩; have cc1 := HS.out _ hw1))
  go_wp2
  clear W1 CC0 CR CU cc1 CCat
  have M0 : Same0 w1 w1 := Kept.refl _ _
  go_loopw [20] (fun i wr => ∃ k : Nat, k ≤ A.length ∧ i = .int .i64 (k : Int) ∧ Hid ((A.take k).all (fun a => !meetB L a.1 x.1) = true) ∧ Same0 w1 wr) (fun i _ => A.length - (intOf i).toNat)
  case atStart => exact ⟨0, Nat.zero_le _, rfl, rfl, M0⟩
  case round =>
    clear M0
    obtain ⟨k, hk, rfl, hall, hs⟩ := hrel
    obtain ⟨wo, hwo⟩ : ∃ wo, wo = wr := ⟨_, rfl⟩
    by_cases hlt : k < A.length
    · obtain ⟨gb, goff, rfl, hgb, go1, gc1, go2, gc2, r0, r1, A1, A2⟩ := (hro.same hs).get hlt
      have i1 : (0 : Int) ≤ (k : Int) := by omega
      have i2 : (k : Int) < (A.length : Int) := by omega
      have hck := hAc _ (List.getElem_mem hlt)
      have KA : Same0 wr (wr.alloc (.cells #[.slice go1 A[k].1.length gc1, .slice go2 A[k].2.length gc2] 118)) := (Kept.refl _ _).alloc _
      have KB : Same0 (w.alloc (.cells #[.pointer (some ⟨b, 0, none⟩), .slice (some ⟨lb, off, none⟩) l.length lc, .int .i64 (n : Int)] 202)) (wr.alloc (.cells #[.slice go1 A[k].1.length gc1, .slice go2 A[k].2.length gc2] 118)) := (hw1.trans' hs).trans' KA
      have hnew := heap_alloc_new wr (.cells #[.slice go1 A[k].1.length gc1, .slice go2 A[k].2.length gc2] 118)
      have HS2 : Hid (∀ ww, Same0 (wr.alloc (.cells #[.slice go1 A[k].1.length gc1, .slice go2 A[k].2.length gc2] 118)) ww → ww.cell? ⟨wr.heap.size, 0, none⟩ = some (.slice go1 A[k].1.length gc1) ∧ (ww.cell? ⟨b, 0, none⟩ = some (.pointer (some ⟨bs, 0, none⟩)) ∧ ww.cell? ⟨b, 1, none⟩ = some (.slice ro R.length rc)) ∧ (ww.cell? ⟨w.heap.size, 0, none⟩ = some (.pointer (some ⟨b, 0, none⟩)) ∧ ww.cell? ⟨w.heap.size, 1, none⟩ = some (.slice (some ⟨lb, off, none⟩) l.length lc) ∧ ww.cell? ⟨w.heap.size, 2, none⟩ = some (.int .i64 (n : Int))) ∧ ww.cell? ⟨lb, off + n * 2, none⟩ = some (.slice ao x.1.length ac) ∧ ww.cell? ⟨lb, off + n * 2 + 1, none⟩ = some (.slice bo x.2.length bc)) := fun ww hk => ⟨cellAt (hk.at0 hnew) 0, HS.out ww (KB.trans' hk)⟩
      have CR2 : Hid (∀ ww, Same0 (wr.alloc (.cells #[.slice go1 A[k].1.length gc1, .slice go2 A[k].2.length gc2] 118)) ww → Calls Tryz.prog 161 #[.agg #[.pointer (some ⟨b, 0, none⟩), .slice (some ⟨lb, off, none⟩) l.length lc, .int .i64 (n : Int)]] ww fun e w' => e = .returned (.agg #[.slice ao x.1.length ac, .slice bo x.2.length bc]) ∧ Same0 (wr.alloc (.cells #[.slice go1 A[k].1.length gc1, .slice go2 A[k].2.length gc2] 118)) w') := fun ww hk => by
        obtain ⟨_, _, _, g0, g1⟩ := HS2.out ww hk
        exact (rule_any g0 g1 hnn).mono (fun e w' ⟨q1, q2⟩ => ⟨q1, hk.trans' q2⟩)
      have CL2 : Hid (∀ ww, Same0 (wr.alloc (.cells #[.slice go1 A[k].1.length gc1, .slice go2 A[k].2.length gc2] 118)) ww → Calls Tryz.prog 168 #[.pointer (some ⟨bs, 0, none⟩), .slice go1 A[k].1.length gc1, .slice ao x.1.length ac] ww fun e w' => e = .returned (.tuple #[.bool (claB L A[k].1 x.1), .int .i64 0]) ∧ Same0 (wr.alloc (.cells #[.slice go1 A[k].1.length gc1, .slice go2 A[k].2.length gc2] 118)) w') := fun ww hk => by
        have hz : claE L A[k].1 x.1 = 0 := by simp [claE, hck, hxc]
        have hA' := HA.out ww (KB.trans' hk)
        have s1 := A1.size
        have s2 := hA'.1.size
        have := clash_any (xc := gc1) (yc := ac) hA'.2.2.sig ((A1.same KA).same hk).at' hA'.1.at' (by unfold maxLen; omega) (by unfold maxLen; omega)
        rw [hz] at this
        exact this.mono (fun e w' ⟨q1, q2⟩ => ⟨q1, hk.trans' q2⟩)
      have hm : meetB L A[k].1 x.1 = !claB L A[k].1 x.1 := by simp [meetB, claE, hck, hxc]
      have CC2 := HS2.out _ (Kept.refl _ _)
      have W2 : Same0 (wr.alloc (.cells #[.slice go1 A[k].1.length gc1, .slice go2 A[k].2.length gc2] 118)) (wr.alloc (.cells #[.slice go1 A[k].1.length gc1, .slice go2 A[k].2.length gc2] 118)).drew := Kept.drew (Kept.refl _ _)
      have KE : Hid (∀ ww, Same0 (wr.alloc (.cells #[.slice go1 A[k].1.length gc1, .slice go2 A[k].2.length gc2] 118)) ww → Same0 w1 ww ∧ Same0 (w.alloc (.cells #[.pointer (some ⟨b, 0, none⟩), .slice (some ⟨lb, off, none⟩) l.length lc, .int .i64 (n : Int)] 202)) ww) := fun ww hk => ⟨(hs.trans' KA).trans' hk, KB.trans' hk⟩
      cases hq : claB L A[k].1 x.1 with
      | false =>
        have Z := E1.out k hlt hall.out (by rw [hm, hq]; rfl)
        rw [hq] at CL2
        clear hm hq E0 E1 hall hck hxc HA hnew KA KB A1 A2 hro hgb hAc
        go_wp2
        go_region_held3 (fun w' => w'.cell? ⟨wr.heap.size, 0, none⟩ = some (.slice go1 A[k].1.length gc1) ∧ (w'.cell? ⟨b, 0, none⟩ = some (.pointer (some ⟨bs, 0, none⟩)) ∧ w'.cell? ⟨b, 1, none⟩ = some (.slice ro R.length rc)) ∧ (w'.cell? ⟨w.heap.size, 0, none⟩ = some (.pointer (some ⟨b, 0, none⟩)) ∧ w'.cell? ⟨w.heap.size, 1, none⟩ = some (.slice (some ⟨lb, off, none⟩) l.length lc) ∧ w'.cell? ⟨w.heap.size, 2, none⟩ = some (.int .i64 (n : Int))) ∧ w'.cell? ⟨lb, off + n * 2, none⟩ = some (.slice ao x.1.length ac) ∧ w'.cell? ⟨lb, off + n * 2 + 1, none⟩ = some (.slice bo x.2.length bc)) (first | exact cc1 | exact CC2) (first | (go_at_call 161; refine (CR2.out _ (by first | exact hv1 | exact W2)).mono ?_; rintro e v1 ⟨rfl, hv1⟩; have cc1 := HS2.out _ hv1) | (go_at_call 168; refine (CL2.out _ (by first | exact hv1 | exact W2)).mono ?_; rintro e v1 ⟨rfl, hv1⟩; have cc1 := HS2.out _ hv1))
        all_goals
          obtain ⟨_, kb⟩ := KE.out _ hv1
          have KB := Kept.alloc kb (.cells #[.int .i64 78, .int .i64 (k : Int), .nilIface] 108)
          have hin := heap_alloc_new v1 (.cells #[.int .i64 78, .int .i64 (k : Int), .nilIface] 108)
          go_wp2_with (first | (go_at_call 162; refine (CF.out _ _ _ (.inr ⟨_, _, rfl⟩) KB).mono ?_; rintro e w3 ⟨k3, rfl, hk3, ks3, kw3⟩; have hin3 := ks3.at0 hin))
          go_ret
          exact ⟨_, rfl, by rw [Z]; exact .inr ⟨by omega, k3, _, rfl, hk3, .inr ⟨by omega, _, _, rfl, hin3, rfl⟩⟩, W0.trans' kw3⟩
      | true =>
        have Z : Hid ((A.take (k + 1)).all (fun a => !meetB L a.1 x.1) = true) := by
          have := hall.out
          show _ = _
          rw [List.take_add_one, List.getElem?_eq_getElem hlt, List.all_append, this]
          simp [hm, hq]
        rw [hq] at CL2
        clear hm hq E0 E1 hall hck hxc HA hnew KA KB A1 A2 hro hgb hAc
        go_wp2
        go_region_held3 (fun w' => w'.cell? ⟨wr.heap.size, 0, none⟩ = some (.slice go1 A[k].1.length gc1) ∧ (w'.cell? ⟨b, 0, none⟩ = some (.pointer (some ⟨bs, 0, none⟩)) ∧ w'.cell? ⟨b, 1, none⟩ = some (.slice ro R.length rc)) ∧ (w'.cell? ⟨w.heap.size, 0, none⟩ = some (.pointer (some ⟨b, 0, none⟩)) ∧ w'.cell? ⟨w.heap.size, 1, none⟩ = some (.slice (some ⟨lb, off, none⟩) l.length lc) ∧ w'.cell? ⟨w.heap.size, 2, none⟩ = some (.int .i64 (n : Int))) ∧ w'.cell? ⟨lb, off + n * 2, none⟩ = some (.slice ao x.1.length ac) ∧ w'.cell? ⟨lb, off + n * 2 + 1, none⟩ = some (.slice bo x.2.length bc)) (first | exact cc1 | exact CC2) (first | (go_at_call 161; refine (CR2.out _ (by first | exact hv1 | exact W2)).mono ?_; rintro e v1 ⟨rfl, hv1⟩; have cc1 := HS2.out _ hv1) | (go_at_call 168; refine (CL2.out _ (by first | exact hv1 | exact W2)).mono ?_; rintro e v1 ⟨rfl, hv1⟩; have cc1 := HS2.out _ hv1))
        all_goals
          go_wp2
          exact ⟨⟨k + 1, by omega, by go_num, Z, (KE.out _ hv1).1⟩, by simp [intOf]; omega⟩
    · have Z := E0.out (by have := hall.out; rwa [List.take_of_length_le (by omega)] at this)
      have kw := hw1.trans' hs
      go_wp2
      go_ret
      exact ⟨_, rfl, by rw [Z]; exact .inl ⟨rfl, rfl, rfl⟩, W0.trans' kw⟩
end Go.Proofs.YthamjjhioafkjaaGreat
namespace Go.Proofs.YthamjjhioafkjaaGreat
set_option maxRecDepth 100000
set_option linter.unusedVariables false
open Go.RowKit
attribute [local go_sem ↓] Go.wp_at_zero Go.wp_at_succ
theorem checks_any (w : World) : Calls Tryz.prog 106 #[] w fun e w' => ∃ g,e = .returned (.slice (some ⟨g,0,none⟩) 8 8) ∧ w'.heap[g]? = some (.cells #[.func (.func 138) #[] #[],.func (.func 139) #[] #[],.func (.func 140) #[] #[],.func (.func 141) #[] #[],.func (.func 142) #[] #[],.func (.func 143) #[] #[],.func (.func 144) #[] #[],.func (.func 145) #[] #[]] 200 (0,0)) ∧ Same0 w w' := by
  go_enter Tryz.func106, Tryz.ntmps106
  go_wp2
  go_ret
  exact ⟨_, rfl, heap_alloc_new _ _, (Kept.refl _ w).alloc _⟩
theorem askW_len (L : List Sym) (R l : List Ru) (j n : Nat) : (askW L R l j n).length ≤ 2 := by
  unfold askW wrongL
  repeat' split
  all_goals simp
theorem askW_yes {L : List Sym} {R l : List Ru} {j n : Nat} (h : ckB L R l j n = true) : bears (askW L R l j n) 0 = true := by
  simp [askW, h, bears]
theorem askW_no {L : List Sym} {R l : List Ru} {j n : Nat} (h : ckB L R l j n = false) : bears (askW L R l j n) 0 = false := by
  unfold askW
  rw [h]
  simp only [Bool.false_eq_true, if_false]
  unfold wrongL
  split
  · rename_i e
    subst e
    simp only [ckB, askB] at h
    generalize l.getD n ([], []) = x at *
    by_cases h1 : checkE L x.1 = 0
    · have h2 : ¬ checkE L x.2 = 0 := by intro e; simp [h1, e] at h
      simp [bears, h1]; omega
    · simp [bears, h1]; omega
  · split
    · simp [bears]
    · simp [bears]; omega
def ChkPost (L : List Sym) (R l : List Ru) (w : World) (e : Ending) (w' : World) : Prop := ∃ ws v, e = .returned v ∧ Ans L R l ws ∧ FltAt w' ws v ∧ ws.length ≤ 2 ∧ Same0 w w'
theorem Ans.no {L : List Sym} {R l : List Ru} {j n : Nat} (hj : j < 8) (hn : n < l.length) (hu : Upto L R l j n) (hc : ckB L R l j n = false) : Ans L R l (askW L R l j n) :=
  .inr ⟨j, n, hj, hn, hu, hc, by simp [askW, hc]⟩
set_option maxHeartbeats 20000000 in
theorem checkR_any {w : World} {b bs : Nat} {ro : Option Addr} {rc : Nat} {L : List Sym} {R : List Ru} {lo : Option Addr} {l : List Ru} {lc : Nat} (h : StR w b bs ro rc L R) (hl : RsAt w lo l) (hll : l.length ≤ 140737488355328) (hlc : l.length ≤ lc) :
    Calls Tryz.prog 74 #[.pointer (some ⟨b,0,none⟩),.slice lo l.length lc] w (ChkPost L R l w) := by
  go_enter Tryz.func74, Tryz.ntmps74
  go_wp2_with (first | (go_at_call 106; refine (checks_any _).mono ?_; rintro e w1 ⟨g, rfl, hg, hk1⟩))
  have HG : Hid (∀ ww, Same0 w1 ww → ww.heap[g]? = some (.cells #[.func (.func 138) #[] #[], .func (.func 139) #[] #[], .func (.func 140) #[] #[], .func (.func 141) #[] #[], .func (.func 142) #[] #[], .func (.func 143) #[] #[], .func (.func 144) #[] #[], .func (.func 145) #[] #[]] 200 (0, 0))) := fun ww hk => hk.at0 hg
  have HC : Hid (∀ n, n < l.length → ∀ ww, Same0 w1 ww → Cnd ww b bs ro rc L R lo l n) := fun n hn ww hk => ⟨(h.same hk1).same hk, (hl.same hk1).same hk, hll, hn⟩
  have HK : Hid (Same0 w w1) := hk1
  have M0 : Same0 w1 w1 := Kept.refl _ _
  clear hg h hl hk1
  go_loopw [16] (fun i wr => ∃ j : Nat, j ≤ 8 ∧ i = .int .i64 (j : Int) ∧ Hid (Upto L R l j 0) ∧ Same0 w1 wr) (fun i _ => 8 - (intOf i).toNat)
  case atStart => exact ⟨0, by omega, rfl, Upto.nil L R l, M0⟩
  case round =>
    clear M0
    obtain ⟨j, hj, rfl, hu0, hs⟩ := hrel
    match j, hj with
    | 0, _ =>
      have f0 := cellAt (HG.out _ hs) 0
      simp only [List.getElem?_toArray, List.getElem?_cons_zero] at f0
      go_wp2
      go_loopw [22] (fun i wr => ∃ n : Nat, n ≤ l.length ∧ i = .int .i64 (n : Int) ∧ Hid (Upto L R l 0 n) ∧ Same0 w1 wr) (fun i _ => l.length - (intOf i).toNat)
      case atStart => exact ⟨0, Nat.zero_le _, rfl, hu0, hs⟩
      case round =>
        clear f0 hs hu0
        obtain ⟨n, hn, rfl, hu, hs⟩ := hrel
        by_cases hlt : n < l.length
        · have HQ := HC.out n hlt _ hs
          have C : Calls Tryz.prog 138 #[.agg #[.pointer (some ⟨b, 0, none⟩), .slice lo l.length lc, .int .i64 (n : Int)]] _ fun e w' => ∃ v, e = .returned v ∧ FltAt w' (askW L R l 0 n) v ∧ Same0 _ w' := many_any (lc := lc) HQ
          clear HQ
          cases hc : ckB L R l 0 n with
          | true =>
            have b1 := askW_yes hc
            have hu1 : Hid (Upto L R l 0 (n + 1)) := hu.out.step hc
            clear hc hu
            go_wp2_with (first | (go_at_call 138; refine C.mono ?_; rintro e w2 ⟨v, rfl, hv, hk2⟩; have CI := is_any hv (askW_len _ _ _ _ _) 0; rw [b1] at CI) | (go_at_call 107; refine CI.mono ?_; rintro e w3 ⟨rfl, rfl⟩))
            go_roundw
            case rel => first | exact ⟨n + 1, by omega, by go_num, hu1, hs.trans' hk2⟩ | ((repeat apply Exists.intro); exact ⟨⟨n + 1, by omega, by go_num, hu1, hs.trans' hk2⟩, rfl⟩)
            case measure => simp [intOf]; omega
          | false =>
            have b1 := askW_no hc
            have A : Hid (Ans L R l (askW L R l 0 n)) := Ans.no (by omega) hlt hu.out hc
            clear hc hu
            go_wp2_with (first | (go_at_call 138; refine C.mono ?_; rintro e w2 ⟨v, rfl, hv, hk2⟩; have CI := is_any hv (askW_len _ _ _ _ _) 0; rw [b1] at CI) | (go_at_call 107; refine CI.mono ?_; rintro e w3 ⟨rfl, rfl⟩))
            go_ret
            exact ⟨_, _, rfl, A.out, hv, askW_len _ _ _ _ _, HK.out.trans' (hs.trans' hk2)⟩
        · have hu1 : Hid (Upto L R l (0 + 1) 0) := hu.out.next (by omega)
          go_wp2
          exact ⟨⟨0 + 1, by omega, by go_num, hu1, hs⟩, by simp [intOf]⟩
    | 1, _ =>
      have f0 := cellAt (HG.out _ hs) 1
      simp only [List.getElem?_toArray, List.getElem?_cons_zero, List.getElem?_cons_succ] at f0
      go_wp2
      go_loopw [22] (fun i wr => ∃ n : Nat, n ≤ l.length ∧ i = .int .i64 (n : Int) ∧ Hid (Upto L R l 1 n) ∧ Same0 w1 wr) (fun i _ => l.length - (intOf i).toNat)
      case atStart => exact ⟨0, Nat.zero_le _, rfl, hu0, hs⟩
      case round =>
        clear f0 hs hu0
        obtain ⟨n, hn, rfl, hu, hs⟩ := hrel
        by_cases hlt : n < l.length
        · have HQ := HC.out n hlt _ hs
          have C : Calls Tryz.prog 139 #[.agg #[.pointer (some ⟨b, 0, none⟩), .slice lo l.length lc, .int .i64 (n : Int)]] _ fun e w' => ∃ v, e = .returned v ∧ FltAt w' (askW L R l 1 n) v ∧ Same0 _ w' := term_any (lc := lc) HQ hu.out
          clear HQ
          cases hc : ckB L R l 1 n with
          | true =>
            have b1 := askW_yes hc
            have hu1 : Hid (Upto L R l 1 (n + 1)) := hu.out.step hc
            clear hc hu
            go_wp2_with (first | (go_at_call 139; refine C.mono ?_; rintro e w2 ⟨v, rfl, hv, hk2⟩; have CI := is_any hv (askW_len _ _ _ _ _) 0; rw [b1] at CI) | (go_at_call 107; refine CI.mono ?_; rintro e w3 ⟨rfl, rfl⟩))
            go_roundw
            case rel => first | exact ⟨n + 1, by omega, by go_num, hu1, hs.trans' hk2⟩ | ((repeat apply Exists.intro); exact ⟨⟨n + 1, by omega, by go_num, hu1, hs.trans' hk2⟩, rfl⟩)
            case measure => simp [intOf]; omega
          | false =>
            have b1 := askW_no hc
            have A : Hid (Ans L R l (askW L R l 1 n)) := Ans.no (by omega) hlt hu.out hc
            clear hc hu
            go_wp2_with (first | (go_at_call 139; refine C.mono ?_; rintro e w2 ⟨v, rfl, hv, hk2⟩; have CI := is_any hv (askW_len _ _ _ _ _) 0; rw [b1] at CI) | (go_at_call 107; refine CI.mono ?_; rintro e w3 ⟨rfl, rfl⟩))
            go_ret
            exact ⟨_, _, rfl, A.out, hv, askW_len _ _ _ _ _, HK.out.trans' (hs.trans' hk2)⟩
        · have hu1 : Hid (Upto L R l (1 + 1) 0) := hu.out.next (by omega)
          go_wp2
          exact ⟨⟨1 + 1, by omega, by go_num, hu1, hs⟩, by simp [intOf]⟩
    | 2, _ =>
      have f0 := cellAt (HG.out _ hs) 2
      simp only [List.getElem?_toArray, List.getElem?_cons_zero, List.getElem?_cons_succ] at f0
      go_wp2
      go_loopw [22] (fun i wr => ∃ n : Nat, n ≤ l.length ∧ i = .int .i64 (n : Int) ∧ Hid (Upto L R l 2 n) ∧ Same0 w1 wr) (fun i _ => l.length - (intOf i).toNat)
      case atStart => exact ⟨0, Nat.zero_le _, rfl, hu0, hs⟩
      case round =>
        clear f0 hs hu0
        obtain ⟨n, hn, rfl, hu, hs⟩ := hrel
        by_cases hlt : n < l.length
        · have HQ := HC.out n hlt _ hs
          have C : Calls Tryz.prog 140 #[.agg #[.pointer (some ⟨b, 0, none⟩), .slice lo l.length lc, .int .i64 (n : Int)]] _ fun e w' => ∃ v, e = .returned v ∧ FltAt w' (askW L R l 2 n) v ∧ Same0 _ w' := side_any (lc := lc) HQ hu.out
          clear HQ
          cases hc : ckB L R l 2 n with
          | true =>
            have b1 := askW_yes hc
            have hu1 : Hid (Upto L R l 2 (n + 1)) := hu.out.step hc
            clear hc hu
            go_wp2_with (first | (go_at_call 140; refine C.mono ?_; rintro e w2 ⟨v, rfl, hv, hk2⟩; have CI := is_any hv (askW_len _ _ _ _ _) 0; rw [b1] at CI) | (go_at_call 107; refine CI.mono ?_; rintro e w3 ⟨rfl, rfl⟩))
            go_roundw
            case rel => first | exact ⟨n + 1, by omega, by go_num, hu1, hs.trans' hk2⟩ | ((repeat apply Exists.intro); exact ⟨⟨n + 1, by omega, by go_num, hu1, hs.trans' hk2⟩, rfl⟩)
            case measure => simp [intOf]; omega
          | false =>
            have b1 := askW_no hc
            have A : Hid (Ans L R l (askW L R l 2 n)) := Ans.no (by omega) hlt hu.out hc
            clear hc hu
            go_wp2_with (first | (go_at_call 140; refine C.mono ?_; rintro e w2 ⟨v, rfl, hv, hk2⟩; have CI := is_any hv (askW_len _ _ _ _ _) 0; rw [b1] at CI) | (go_at_call 107; refine CI.mono ?_; rintro e w3 ⟨rfl, rfl⟩))
            go_ret
            exact ⟨_, _, rfl, A.out, hv, askW_len _ _ _ _ _, HK.out.trans' (hs.trans' hk2)⟩
        · have hu1 : Hid (Upto L R l (2 + 1) 0) := hu.out.next (by omega)
          go_wp2
          exact ⟨⟨2 + 1, by omega, by go_num, hu1, hs⟩, by simp [intOf]⟩
    | 3, _ =>
      have f0 := cellAt (HG.out _ hs) 3
      simp only [List.getElem?_toArray, List.getElem?_cons_zero, List.getElem?_cons_succ] at f0
      go_wp2
      go_loopw [22] (fun i wr => ∃ n : Nat, n ≤ l.length ∧ i = .int .i64 (n : Int) ∧ Hid (Upto L R l 3 n) ∧ Same0 w1 wr) (fun i _ => l.length - (intOf i).toNat)
      case atStart => exact ⟨0, Nat.zero_le _, rfl, hu0, hs⟩
      case round =>
        clear f0 hs hu0
        obtain ⟨n, hn, rfl, hu, hs⟩ := hrel
        by_cases hlt : n < l.length
        · have HQ := HC.out n hlt _ hs
          have C : Calls Tryz.prog 141 #[.agg #[.pointer (some ⟨b, 0, none⟩), .slice lo l.length lc, .int .i64 (n : Int)]] _ fun e w' => ∃ v, e = .returned v ∧ FltAt w' (askW L R l 3 n) v ∧ Same0 _ w' := root_any (lc := lc) HQ hu.out
          clear HQ
          cases hc : ckB L R l 3 n with
          | true =>
            have b1 := askW_yes hc
            have hu1 : Hid (Upto L R l 3 (n + 1)) := hu.out.step hc
            clear hc hu
            go_wp2_with (first | (go_at_call 141; refine C.mono ?_; rintro e w2 ⟨v, rfl, hv, hk2⟩; have CI := is_any hv (askW_len _ _ _ _ _) 0; rw [b1] at CI) | (go_at_call 107; refine CI.mono ?_; rintro e w3 ⟨rfl, rfl⟩))
            go_roundw
            case rel => first | exact ⟨n + 1, by omega, by go_num, hu1, hs.trans' hk2⟩ | ((repeat apply Exists.intro); exact ⟨⟨n + 1, by omega, by go_num, hu1, hs.trans' hk2⟩, rfl⟩)
            case measure => simp [intOf]; omega
          | false =>
            have b1 := askW_no hc
            have A : Hid (Ans L R l (askW L R l 3 n)) := Ans.no (by omega) hlt hu.out hc
            clear hc hu
            go_wp2_with (first | (go_at_call 141; refine C.mono ?_; rintro e w2 ⟨v, rfl, hv, hk2⟩; have CI := is_any hv (askW_len _ _ _ _ _) 0; rw [b1] at CI) | (go_at_call 107; refine CI.mono ?_; rintro e w3 ⟨rfl, rfl⟩))
            go_ret
            exact ⟨_, _, rfl, A.out, hv, askW_len _ _ _ _ _, HK.out.trans' (hs.trans' hk2)⟩
        · have hu1 : Hid (Upto L R l (3 + 1) 0) := hu.out.next (by omega)
          go_wp2
          exact ⟨⟨3 + 1, by omega, by go_num, hu1, hs⟩, by simp [intOf]⟩
    | 4, _ =>
      have f0 := cellAt (HG.out _ hs) 4
      simp only [List.getElem?_toArray, List.getElem?_cons_zero, List.getElem?_cons_succ] at f0
      go_wp2
      go_loopw [22] (fun i wr => ∃ n : Nat, n ≤ l.length ∧ i = .int .i64 (n : Int) ∧ Hid (Upto L R l 4 n) ∧ Same0 w1 wr) (fun i _ => l.length - (intOf i).toNat)
      case atStart => exact ⟨0, Nat.zero_le _, rfl, hu0, hs⟩
      case round =>
        clear f0 hs hu0
        obtain ⟨n, hn, rfl, hu, hs⟩ := hrel
        by_cases hlt : n < l.length
        · have HQ := HC.out n hlt _ hs
          have C : Calls Tryz.prog 142 #[.agg #[.pointer (some ⟨b, 0, none⟩), .slice lo l.length lc, .int .i64 (n : Int)]] _ fun e w' => ∃ v, e = .returned v ∧ FltAt w' (askW L R l 4 n) v ∧ Same0 _ w' := linear_any (lc := lc) HQ hu.out
          clear HQ
          cases hc : ckB L R l 4 n with
          | true =>
            have b1 := askW_yes hc
            have hu1 : Hid (Upto L R l 4 (n + 1)) := hu.out.step hc
            clear hc hu
            go_wp2_with (first | (go_at_call 142; refine C.mono ?_; rintro e w2 ⟨v, rfl, hv, hk2⟩; have CI := is_any hv (askW_len _ _ _ _ _) 0; rw [b1] at CI) | (go_at_call 107; refine CI.mono ?_; rintro e w3 ⟨rfl, rfl⟩))
            go_roundw
            case rel => first | exact ⟨n + 1, by omega, by go_num, hu1, hs.trans' hk2⟩ | ((repeat apply Exists.intro); exact ⟨⟨n + 1, by omega, by go_num, hu1, hs.trans' hk2⟩, rfl⟩)
            case measure => simp [intOf]; omega
          | false =>
            have b1 := askW_no hc
            have A : Hid (Ans L R l (askW L R l 4 n)) := Ans.no (by omega) hlt hu.out hc
            clear hc hu
            go_wp2_with (first | (go_at_call 142; refine C.mono ?_; rintro e w2 ⟨v, rfl, hv, hk2⟩; have CI := is_any hv (askW_len _ _ _ _ _) 0; rw [b1] at CI) | (go_at_call 107; refine CI.mono ?_; rintro e w3 ⟨rfl, rfl⟩))
            go_ret
            exact ⟨_, _, rfl, A.out, hv, askW_len _ _ _ _ _, HK.out.trans' (hs.trans' hk2)⟩
        · have hu1 : Hid (Upto L R l (4 + 1) 0) := hu.out.next (by omega)
          go_wp2
          exact ⟨⟨4 + 1, by omega, by go_num, hu1, hs⟩, by simp [intOf]⟩
    | 5, _ =>
      have f0 := cellAt (HG.out _ hs) 5
      simp only [List.getElem?_toArray, List.getElem?_cons_zero, List.getElem?_cons_succ] at f0
      go_wp2
      go_loopw [22] (fun i wr => ∃ n : Nat, n ≤ l.length ∧ i = .int .i64 (n : Int) ∧ Hid (Upto L R l 5 n) ∧ Same0 w1 wr) (fun i _ => l.length - (intOf i).toNat)
      case atStart => exact ⟨0, Nat.zero_le _, rfl, hu0, hs⟩
      case round =>
        clear f0 hs hu0
        obtain ⟨n, hn, rfl, hu, hs⟩ := hrel
        by_cases hlt : n < l.length
        · have HQ := HC.out n hlt _ hs
          have C : Calls Tryz.prog 143 #[.agg #[.pointer (some ⟨b, 0, none⟩), .slice lo l.length lc, .int .i64 (n : Int)]] _ fun e w' => ∃ v, e = .returned v ∧ FltAt w' (askW L R l 5 n) v ∧ Same0 _ w' := below_any (lc := lc) HQ hu.out
          clear HQ
          cases hc : ckB L R l 5 n with
          | true =>
            have b1 := askW_yes hc
            have hu1 : Hid (Upto L R l 5 (n + 1)) := hu.out.step hc
            clear hc hu
            go_wp2_with (first | (go_at_call 143; refine C.mono ?_; rintro e w2 ⟨v, rfl, hv, hk2⟩; have CI := is_any hv (askW_len _ _ _ _ _) 0; rw [b1] at CI) | (go_at_call 107; refine CI.mono ?_; rintro e w3 ⟨rfl, rfl⟩))
            go_roundw
            case rel => first | exact ⟨n + 1, by omega, by go_num, hu1, hs.trans' hk2⟩ | ((repeat apply Exists.intro); exact ⟨⟨n + 1, by omega, by go_num, hu1, hs.trans' hk2⟩, rfl⟩)
            case measure => simp [intOf]; omega
          | false =>
            have b1 := askW_no hc
            have A : Hid (Ans L R l (askW L R l 5 n)) := Ans.no (by omega) hlt hu.out hc
            clear hc hu
            go_wp2_with (first | (go_at_call 143; refine C.mono ?_; rintro e w2 ⟨v, rfl, hv, hk2⟩; have CI := is_any hv (askW_len _ _ _ _ _) 0; rw [b1] at CI) | (go_at_call 107; refine CI.mono ?_; rintro e w3 ⟨rfl, rfl⟩))
            go_ret
            exact ⟨_, _, rfl, A.out, hv, askW_len _ _ _ _ _, HK.out.trans' (hs.trans' hk2)⟩
        · have hu1 : Hid (Upto L R l (5 + 1) 0) := hu.out.next (by omega)
          go_wp2
          exact ⟨⟨5 + 1, by omega, by go_num, hu1, hs⟩, by simp [intOf]⟩
    | 6, _ =>
      have f0 := cellAt (HG.out _ hs) 6
      simp only [List.getElem?_toArray, List.getElem?_cons_zero, List.getElem?_cons_succ] at f0
      go_wp2
      go_loopw [22] (fun i wr => ∃ n : Nat, n ≤ l.length ∧ i = .int .i64 (n : Int) ∧ Hid (Upto L R l 6 n) ∧ Same0 w1 wr) (fun i _ => l.length - (intOf i).toNat)
      case atStart => exact ⟨0, Nat.zero_le _, rfl, hu0, hs⟩
      case round =>
        clear f0 hs hu0
        obtain ⟨n, hn, rfl, hu, hs⟩ := hrel
        by_cases hlt : n < l.length
        · have HQ := HC.out n hlt _ hs
          have C : Calls Tryz.prog 144 #[.agg #[.pointer (some ⟨b, 0, none⟩), .slice lo l.length lc, .int .i64 (n : Int)]] _ fun e w' => ∃ v, e = .returned v ∧ FltAt w' (askW L R l 6 n) v ∧ Same0 _ w' := free_any (lc := lc) HQ hu.out
          clear HQ
          cases hc : ckB L R l 6 n with
          | true =>
            have b1 := askW_yes hc
            have hu1 : Hid (Upto L R l 6 (n + 1)) := hu.out.step hc
            clear hc hu
            go_wp2_with (first | (go_at_call 144; refine C.mono ?_; rintro e w2 ⟨v, rfl, hv, hk2⟩; have CI := is_any hv (askW_len _ _ _ _ _) 0; rw [b1] at CI) | (go_at_call 107; refine CI.mono ?_; rintro e w3 ⟨rfl, rfl⟩))
            go_roundw
            case rel => first | exact ⟨n + 1, by omega, by go_num, hu1, hs.trans' hk2⟩ | ((repeat apply Exists.intro); exact ⟨⟨n + 1, by omega, by go_num, hu1, hs.trans' hk2⟩, rfl⟩)
            case measure => simp [intOf]; omega
          | false =>
            have b1 := askW_no hc
            have A : Hid (Ans L R l (askW L R l 6 n)) := Ans.no (by omega) hlt hu.out hc
            clear hc hu
            go_wp2_with (first | (go_at_call 144; refine C.mono ?_; rintro e w2 ⟨v, rfl, hv, hk2⟩; have CI := is_any hv (askW_len _ _ _ _ _) 0; rw [b1] at CI) | (go_at_call 107; refine CI.mono ?_; rintro e w3 ⟨rfl, rfl⟩))
            go_ret
            exact ⟨_, _, rfl, A.out, hv, askW_len _ _ _ _ _, HK.out.trans' (hs.trans' hk2)⟩
        · have hu1 : Hid (Upto L R l (6 + 1) 0) := hu.out.next (by omega)
          go_wp2
          exact ⟨⟨6 + 1, by omega, by go_num, hu1, hs⟩, by simp [intOf]⟩
    | 7, _ =>
      have f0 := cellAt (HG.out _ hs) 7
      simp only [List.getElem?_toArray, List.getElem?_cons_zero, List.getElem?_cons_succ] at f0
      go_wp2
      go_loopw [22] (fun i wr => ∃ n : Nat, n ≤ l.length ∧ i = .int .i64 (n : Int) ∧ Hid (Upto L R l 7 n) ∧ Same0 w1 wr) (fun i _ => l.length - (intOf i).toNat)
      case atStart => exact ⟨0, Nat.zero_le _, rfl, hu0, hs⟩
      case round =>
        clear f0 hs hu0
        obtain ⟨n, hn, rfl, hu, hs⟩ := hrel
        by_cases hlt : n < l.length
        · have HQ := HC.out n hlt _ hs
          have C : Calls Tryz.prog 145 #[.agg #[.pointer (some ⟨b, 0, none⟩), .slice lo l.length lc, .int .i64 (n : Int)]] _ fun e w' => ∃ v, e = .returned v ∧ FltAt w' (askW L R l 7 n) v ∧ Same0 _ w' := overlap_any (lc := lc) HQ hlc hu.out
          clear HQ
          cases hc : ckB L R l 7 n with
          | true =>
            have b1 := askW_yes hc
            have hu1 : Hid (Upto L R l 7 (n + 1)) := hu.out.step hc
            clear hc hu
            go_wp2_with (first | (go_at_call 145; refine C.mono ?_; rintro e w2 ⟨v, rfl, hv, hk2⟩; have CI := is_any hv (askW_len _ _ _ _ _) 0; rw [b1] at CI) | (go_at_call 107; refine CI.mono ?_; rintro e w3 ⟨rfl, rfl⟩))
            go_roundw
            case rel => first | exact ⟨n + 1, by omega, by go_num, hu1, hs.trans' hk2⟩ | ((repeat apply Exists.intro); exact ⟨⟨n + 1, by omega, by go_num, hu1, hs.trans' hk2⟩, rfl⟩)
            case measure => simp [intOf]; omega
          | false =>
            have b1 := askW_no hc
            have A : Hid (Ans L R l (askW L R l 7 n)) := Ans.no (by omega) hlt hu.out hc
            clear hc hu
            go_wp2_with (first | (go_at_call 145; refine C.mono ?_; rintro e w2 ⟨v, rfl, hv, hk2⟩; have CI := is_any hv (askW_len _ _ _ _ _) 0; rw [b1] at CI) | (go_at_call 107; refine CI.mono ?_; rintro e w3 ⟨rfl, rfl⟩))
            go_ret
            exact ⟨_, _, rfl, A.out, hv, askW_len _ _ _ _ _, HK.out.trans' (hs.trans' hk2)⟩
        · have hu1 : Hid (Upto L R l (7 + 1) 0) := hu.out.next (by omega)
          go_wp2
          exact ⟨⟨7 + 1, by omega, by go_num, hu1, hs⟩, by simp [intOf]⟩
    | 8, _ =>
      have A : Hid (Ans L R l []) := .inl ⟨rfl, hu0.out⟩
      go_wp2
      go_ret
      exact ⟨[], _, rfl, A.out, rfl, by simp, HK.out.trans' hs⟩
    | j + 9, hj => exact absurd hj (by omega)
end Go.Proofs.YthamjjhioafkjaaGreat
