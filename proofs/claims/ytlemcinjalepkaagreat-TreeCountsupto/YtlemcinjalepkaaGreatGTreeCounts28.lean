import Derived.Test.YtlemcinjalepkaaGreatGTreeCounts27
import Derived.Test.YtlemcinjalepkaaGreatGTreeCounts26
import Derived.Test.YtlemcinjalepkaaGreatGRule07
import Derived.Test.YtlemcinjalepkaaGreatGRule03
import Derived.Test.YtlemcinjalepkaaGreatGRule12
import Derived.SizedLaws
import Derived.Test.YtlemcinjalepkaaGreatRows
import Derived.Test.YtlemcinjalepkaaGreatGRule15
/- The walk of ref08.Size. -/
namespace Go.Proofs.YtlemcinjalepkaaGreat
set_option maxRecDepth 100000
set_option linter.unusedVariables false
set_option linter.unusedSimpArgs false
open Go.RowKit
attribute [local go_sem ↓] Go.wp_at_zero Go.wp_at_succ
def RZIH (n : Nat) : Prop := ∀ (w : World) (v : Value) (t : Tr n) (B : Nat → Prop), CsB B w n v t → Le3 (szT n t) → SmK n t → Calls Tryz.prog 24 #[v] w fun e w' => e = .returned (.agg #[.int .i64 ((szT n t).1 : Int), .int .i64 ((szT n t).2.1 : Int), .int .i64 ((szT n t).2.2 : Int)]) ∧ Same0 w w'
/-- The three counts in one block. -/
def OAt (w : World) (b : Nat) (a : T3) : Prop := w.heap[b]? = some (.cells #[.int .i64 (a.1 : Int), .int .i64 (a.2.1 : Int), .int .i64 (a.2.2 : Int)] 65 (0, 0))
set_option maxHeartbeats 8000000 in
theorem rz_step {n : Nat} (IH : RZIH n) : RZIH (n + 1) := by
  intro w va t B ha hlen hsm
  obtain ⟨k, r, p, l⟩ := t
  obtain ⟨po, pc, ko, kc, rfl, a2, a3, a4, a5, a6⟩ := ha
  obtain ⟨hl9, hsk⟩ := hsm
  by_cases hk1 : k = 1
  · subst hk1
    have e1 : szT (n + 1) (1, r, p, l) = (1, 0, 0) := by simp [szT, kind3, add3]
    rw [e1]
    clear a6 IH a2 a3 a4 hsk hlen e1
    go_enter Tryz.func24, Tryz.ntmps24
    go_wp2
    exact bodyPost_ret (v := .agg #[.int .i64 1, .int .i64 0, .int .i64 0]) (by simp [results, Tryz.results24, go_sem]) rfl ⟨rfl, (((Kept.refl _ w).alloc _).alloc _).alloc _⟩
  · by_cases hk3 : k = 3
    · subst hk3
      have e1 : szT (n + 1) (3, r, p, l) = (0, 0, 1) := by simp [szT, kind3, add3]
      rw [e1]
      clear a6 IH a2 a3 a4 hsk hlen e1 hk1
      go_enter Tryz.func24, Tryz.ntmps24
      go_wp2
      exact bodyPost_ret (v := .agg #[.int .i64 0, .int .i64 0, .int .i64 1]) (by simp [results, Tryz.results24, go_sem]) rfl ⟨rfl, (((Kept.refl _ w).alloc _).alloc _).alloc _⟩
    · by_cases hk2 : k = 2
      · subst hk2
        clear hk1 hk3
        obtain ⟨W3, hW3⟩ : ∃ W3, W3 = ((w.alloc (.cells #[.int .i64 2, .int .i64 r, .slice po p.length pc, .slice ko l.length kc] 35)).alloc (.cells #[.int .i64 0, .int .i64 0, .int .i64 0] 65)).alloc (.cells #[.int .i64 0, .int .i64 1, .int .i64 0] 65) := ⟨_, rfl⟩
        have KW : Same0 w W3 := by rw [hW3]; exact (((Kept.refl _ w).alloc _).alloc _).alloc _
        have h0 : W3.heap[w.heap.size]? = some (.cells #[.int .i64 2, .int .i64 r, .slice po p.length pc, .slice ko l.length kc] 35 (0, 0)) := by
          have k2 : Same0 (w.alloc (.cells #[.int .i64 2, .int .i64 r, .slice po p.length pc, .slice ko l.length kc] 35)) W3 := by rw [hW3]; exact ((Kept.refl _ _).alloc _).alloc _
          exact k2.at0 (heap_alloc_new w _)
        have h1 : W3.heap[w.heap.size + 1]? = some (.cells #[.int .i64 0, .int .i64 0, .int .i64 0] 65 (0, 0)) := by
          have k2 : Same0 ((w.alloc (.cells #[.int .i64 2, .int .i64 r, .slice po p.length pc, .slice ko l.length kc] 35)).alloc (.cells #[.int .i64 0, .int .i64 0, .int .i64 0] 65)) W3 := by rw [hW3]; exact (Kept.refl _ _).alloc _
          exact k2.at0 (heap_al_al _ _ _)
        have h2 : W3.heap[w.heap.size + 1 + 1]? = some (.cells #[.int .i64 0, .int .i64 1, .int .i64 0] 65 (0, 0)) := by
          have := heap_al_al (w.alloc (.cells #[.int .i64 2, .int .i64 r, .slice po p.length pc, .slice ko l.length kc] 35)) (.cells #[.int .i64 0, .int .i64 0, .int .i64 0] 65) (.cells #[.int .i64 0, .int .i64 1, .int .i64 0] 65)
          rw [World.size_alloc] at this
          rw [hW3]; exact this
        have zW : W3.heap.size = w.heap.size + 1 + 1 + 1 := by rw [hW3]; simp
        have BX : Hid (∀ ww, Kept (fun q => q = w.heap.size + 1 + 1) W3 ww → ww.cell? ⟨w.heap.size, 3, none⟩ = some (.slice ko l.length kc)) := fun ww hk => cellAt (hk.at h0 (fun e => by omega)) 3
        have H6 : Hid (l = [] ∨ ∃ b off, ko = some ⟨b, off, none⟩ ∧ B b ∧ b < w.heap.size ∧ ∀ i (h : i < l.length), ∃ c0 c1 c2 c3, w.cell? ⟨b, off + i * 5, none⟩ = some (.int .i64 l[i].1) ∧ w.cell? ⟨b, off + i * 5 + 1, none⟩ = some c0 ∧ w.cell? ⟨b, off + i * 5 + 2, none⟩ = some c1 ∧ w.cell? ⟨b, off + i * 5 + 3, none⟩ = some c2 ∧ w.cell? ⟨b, off + i * 5 + 4, none⟩ = some c3 ∧ CsB B w n (.agg #[c0, c1, c2, c3]) l[i].2) := a6
        have HSK : Hid (∀ i (h : i < l.length), SmK n l[i].2) := hsk
        have HIH : Hid (RZIH n) := IH
        have e1 : szT (n + 1) (2, r, p, l) = add3 (0, 1, 0) (sum3 (fun x => szT n x.2) l) := by simp [szT, kind3]
        rw [e1] at hlen ⊢
        have HLE : Hid (Le3 (add3 (0, 1, 0) (sum3 (fun x => szT n x.2) l))) := hlen
        have HO : Hid (OAt W3 (w.heap.size + 1 + 1) (add3 (0, 1, 0) (sum3 (fun x => szT n x.2) (l.take 0)))) := h2
        clear a6 hsk IH a2 a3 a4 hlen e1
        go_enter Tryz.func24, Tryz.ntmps24
        go_upto_region 9 with fail
        rw [← hW3]
        clear hW3
        go_wp2_with fail
        go_loopw [4] (fun i wr => ∃ (j : Nat), j ≤ l.length ∧ i = .int .i64 (j : Int) ∧ Hid (OAt wr (w.heap.size + 1 + 1) (add3 (0, 1, 0) (sum3 (fun x => szT n x.2) (l.take j)))) ∧ Kept (fun q => q = w.heap.size + 1 + 1) W3 wr) (fun i _ => l.length - (intOf i).toNat)
        case atStart => exact ⟨0, Nat.zero_le _, rfl, HO, Kept.refl _ _⟩
        case round =>
          clear HO
          obtain ⟨j, hj, rfl, hOk, hw⟩ := hrel
          have y3 := BX.out wr hw
          by_cases hjl : j < l.length
          · rcases H6.out with e | ⟨ab, aoff, rfl, hBab, hab, hca⟩
            · subst e; simp at hjl
            obtain ⟨c0, c1, c2, c3, p0, p1, p2, p3, p4, p5⟩ := hca j hjl
            obtain ⟨e0, e1, e2, e3, e4, e5, e6, e7, ea⟩ := p5.shape
            simp only [Value.agg.injEq, Array.mk.injEq, List.cons.injEq, and_true] at ea
            obtain ⟨rfl, rfl, rfl, rfl⟩ := ea
            have kw : Same0 w wr := Kept.trans KW hw (fun _ _ z => by omega)
            have ta : ∀ o v, w.cell? ⟨ab, o, none⟩ = some v → wr.cell? ⟨ab, o, none⟩ = some v := fun o v e => (kw.cell (p := ⟨ab, o, none⟩) hab (fun f => f)).trans e
            have p1 := ta _ _ p1
            have p2 := ta _ _ p2
            have p3 := ta _ _ p3
            have p4 := ta _ _ p4
            have i1 : (0 : Int) ≤ (j : Int) := by omega
            have i2 : (j : Int) < (l.length : Int) := by omega
            have p6 := p5.same kw
            have eS : add3 (add3 (0, 1, 0) (sum3 (fun x => szT n x.2) (l.take j))) (szT n l[j].2) = add3 (0, 1, 0) (sum3 (fun x => szT n x.2) (l.take (j + 1))) := by rw [sum3_take _ _ hjl]; simp only [add3, Nat.add_assoc]
            have hle2 : Le3 (add3 (add3 (0, 1, 0) (sum3 (fun x => szT n x.2) (l.take j))) (szT n l[j].2)) := by
              rw [eS]
              obtain ⟨h1, h2, h3⟩ := HLE.out
              obtain ⟨g1, g2, g3⟩ := sum3_le (fun x : Int × Tr n => szT n x.2) l (j + 1)
              simp only [add3] at h1 h2 h3
              exact ⟨by simp only [add3]; omega, by simp only [add3]; omega, by simp only [add3]; omega⟩
            have CC := HIH.out wr _ _ _ p6 ⟨Nat.le_trans (by simp [add3]) hle2.1, Nat.le_trans (by simp [add3]) hle2.2.1, Nat.le_trans (by simp [add3]) hle2.2.2⟩ (HSK.out j hjl)
            have FIN : Hid (∀ w5, OAt w5 (w.heap.size + 1 + 1) (add3 (add3 (0, 1, 0) (sum3 (fun x => szT n x.2) (l.take j))) (szT n l[j].2)) → Hid (OAt w5 (w.heap.size + 1 + 1) (add3 (0, 1, 0) (sum3 (fun x => szT n x.2) (l.take (j + 1)))))) := fun w5 f => by rw [eS] at f; exact f
            clear hca p5 p6 ta eS p0
            generalize add3 (0, 1, 0) (sum3 (fun x => szT n x.2) (l.take j)) = A at *
            generalize szT n l[j].2 = S at *
            obtain ⟨s1, s2, s3⟩ := S
            obtain ⟨t1, t2, t3⟩ := A
            go_upto_region 13 with (first | (go_at_call 24; refine CC.mono ?_; intro e w5 h5; obtain ⟨rfl, k5⟩ := h5))
            obtain ⟨W6, hW6⟩ : ∃ W6, W6 = w5.alloc (.cells #[.int .i64 (s1 : Int), .int .i64 (s2 : Int), .int .i64 (s3 : Int)] 65) := ⟨_, rfl⟩
            have KS : Same0 wr W6 := by rw [hW6]; exact Kept.alloc k5 _
            have hO6 : Hid (OAt W6 (w.heap.size + 1 + 1) (t1, t2, t3)) := KS.at0 hOk.out
            have zz : w.heap.size + 1 + 1 < w5.heap.size := by have := hw.size; have := k5.size; omega
            have SUB : Hid (∀ ww, Kept (fun q => q = w.heap.size + 1 + 1) W6 ww → ww.cell? ⟨w5.heap.size, 0, none⟩ = some (.int .i64 (s1 : Int)) ∧ ww.cell? ⟨w5.heap.size, 1, none⟩ = some (.int .i64 (s2 : Int)) ∧ ww.cell? ⟨w5.heap.size, 2, none⟩ = some (.int .i64 (s3 : Int))) := fun ww hk => by
              have g0 : W6.heap[w5.heap.size]? = some (.cells #[.int .i64 (s1 : Int), .int .i64 (s2 : Int), .int .i64 (s3 : Int)] 65 (0, 0)) := by rw [hW6]; exact heap_alloc_new w5 _
              have g1 := hk.at g0 (fun e => by omega)
              exact ⟨cellAt g1 0, cellAt g1 1, cellAt g1 2⟩
            obtain ⟨q1, q2, q3⟩ := hle2
            simp only [add3] at q1 q2 q3
            have u1 : IntKind.i64.wrap ((t1 : Int) + (s1 : Int)) = ((t1 + s1 : Nat) : Int) := (iwrap (by omega) (by omega)).trans (by omega)
            have u2 : IntKind.i64.wrap ((t2 : Int) + (s2 : Int)) = ((t2 + s2 : Nat) : Int) := (iwrap (by omega) (by omega)).trans (by omega)
            have u3 : IntKind.i64.wrap ((t3 : Int) + (s3 : Int)) = ((t3 + s3 : Nat) : Int) := (iwrap (by omega) (by omega)).trans (by omega)
            have FIN2 : Hid (∀ ww, Kept (fun q => q = w.heap.size + 1 + 1) W6 ww → Kept (fun q => q = w.heap.size + 1 + 1) W3 ww) := fun ww hk => Kept.trans (Kept.trans hw KS.mono' (fun _ _ z => z)) hk (fun _ _ z => z)
            rw [← hW6]
            clear hW6 hOk p1 p2 p3 p4 CC y3 hw kw k5 KS q1 q2 q3
            go_wp2_with fail
            go_loopw [6] (fun i wq => Kept (fun q => q = w.heap.size + 1 + 1) W6 wq ∧ ((i = .int .i64 0 ∧ Hid (OAt wq (w.heap.size + 1 + 1) (t1, t2, t3))) ∨ (i = .int .i64 1 ∧ Hid (OAt wq (w.heap.size + 1 + 1) (t1 + s1, t2, t3))) ∨ (i = .int .i64 2 ∧ Hid (OAt wq (w.heap.size + 1 + 1) (t1 + s1, t2 + s2, t3))) ∨ (i = .int .i64 3 ∧ Hid (OAt wq (w.heap.size + 1 + 1) (t1 + s1, t2 + s2, t3 + s3))))) (fun i _ => 3 - (intOf i).toNat)
            case atStart => exact ⟨Kept.refl _ _, .inl ⟨rfl, hO6⟩⟩
            case round =>
              obtain ⟨hwq, hcs⟩ := hrel
              obtain ⟨b0, b1, b2⟩ := SUB.out wr hwq
              rcases hcs with ⟨rfl, ho⟩ | ⟨rfl, ho⟩ | ⟨rfl, ho⟩ | ⟨rfl, ho⟩
              · have o0 := cellAt ho.out 0
                have f0 := frozenAt ho.out 0
                simp only [List.getElem?_toArray, List.getElem?_cons_zero, List.getElem?_cons_succ] at o0
                have ks : Hid (Kept (fun q => q = w.heap.size + 1 + 1) W6 (wr.setCell ⟨w.heap.size + 1 + 1, 0, none⟩ (.int .i64 ((t1 : Int) + (s1 : Int)))).drew) := Kept.drewN (Kept.setCell (p := ⟨w.heap.size + 1 + 1, 0, none⟩) hwq (fun _ => rfl) _) 1
                have FIN : Hid (OAt (wr.setCell ⟨w.heap.size + 1 + 1, 0, none⟩ (.int .i64 ((t1 : Int) + (s1 : Int)))).drew (w.heap.size + 1 + 1) (t1 + s1, t2, t3)) := setAt ho.out 0 _
                clear ho hwq
                go_wp2_with fail
                go_region
                go_wp2_with fail
                exact ⟨⟨ks.out, .inr (.inl ⟨rfl, FIN⟩)⟩, by simp [intOf]⟩
              · have o0 := cellAt ho.out 1
                have f0 := frozenAt ho.out 1
                simp only [List.getElem?_toArray, List.getElem?_cons_zero, List.getElem?_cons_succ] at o0
                have ks : Hid (Kept (fun q => q = w.heap.size + 1 + 1) W6 (wr.setCell ⟨w.heap.size + 1 + 1, 1, none⟩ (.int .i64 ((t2 : Int) + (s2 : Int)))).drew) := Kept.drewN (Kept.setCell (p := ⟨w.heap.size + 1 + 1, 1, none⟩) hwq (fun _ => rfl) _) 1
                have FIN : Hid (OAt (wr.setCell ⟨w.heap.size + 1 + 1, 1, none⟩ (.int .i64 ((t2 : Int) + (s2 : Int)))).drew (w.heap.size + 1 + 1) (t1 + s1, t2 + s2, t3)) := setAt ho.out 1 _
                clear ho hwq
                go_wp2_with fail
                go_region
                go_wp2_with fail
                exact ⟨⟨ks.out, .inr (.inr (.inl ⟨rfl, FIN⟩))⟩, by simp [intOf]⟩
              · have o0 := cellAt ho.out 2
                have f0 := frozenAt ho.out 2
                simp only [List.getElem?_toArray, List.getElem?_cons_zero, List.getElem?_cons_succ] at o0
                have ks : Hid (Kept (fun q => q = w.heap.size + 1 + 1) W6 (wr.setCell ⟨w.heap.size + 1 + 1, 2, none⟩ (.int .i64 ((t3 : Int) + (s3 : Int)))).drew) := Kept.drewN (Kept.setCell (p := ⟨w.heap.size + 1 + 1, 2, none⟩) hwq (fun _ => rfl) _) 1
                have FIN : Hid (OAt (wr.setCell ⟨w.heap.size + 1 + 1, 2, none⟩ (.int .i64 ((t3 : Int) + (s3 : Int)))).drew (w.heap.size + 1 + 1) (t1 + s1, t2 + s2, t3 + s3)) := setAt ho.out 2 _
                clear ho hwq
                go_wp2_with fail
                go_region
                go_wp2_with fail
                exact ⟨⟨ks.out, .inr (.inr (.inr ⟨rfl, FIN⟩))⟩, by simp [intOf]⟩
              · have FF := FIN.out wr ho.out
                have kk := FIN2.out wr hwq
                clear ho hwq
                go_wp2_with fail
                exact ⟨⟨j + 1, by omega, by go_num, FF, kk⟩, by simp [intOf]; omega⟩
          · obtain rfl : j = l.length := by omega
            have ho := hOk.out
            rw [List.take_length] at ho
            have hr1 := hw.at h1 (fun e => by omega)
            have FIN : Hid (Same0 w wr) := Kept.trans KW hw (fun _ _ z => by omega)
            obtain ⟨s1, s2, s3, hs⟩ : ∃ s1 s2 s3 : Nat, add3 (0, 1, 0) (sum3 (fun x => szT n x.2) l) = (s1, s2, s3) := ⟨_, _, _, rfl⟩
            rw [hs] at ho
            have o0 := cellAt ho 0
            have o1 := cellAt ho 1
            have o2 := cellAt ho 2
            have r0 := cellAt hr1 0
            have r1 := cellAt hr1 1
            have r2 := cellAt hr1 2
            have f0 := frozenAt hr1 0
            have f1 := frozenAt hr1 1
            have f2 := frozenAt hr1 2
            simp only [List.getElem?_toArray, List.getElem?_cons_zero, List.getElem?_cons_succ] at o0 o1 o2 r0 r1 r2
            have hF := setAt (setAt (setAt hr1 0 (.int .i64 (s1 : Int))) 1 (.int .i64 (s2 : Int))) 2 (.int .i64 (s3 : Int))
            have v0 : _ = some (Value.int .i64 (s1 : Int)) := cellAt hF 0
            have v1 : _ = some (Value.int .i64 (s2 : Int)) := cellAt hF 1
            have v2 : _ = some (Value.int .i64 (s3 : Int)) := cellAt hF 2
            have FS : Hid (Same0 w (((wr.setCell ⟨w.heap.size + 1, 0, none⟩ (.int .i64 (s1 : Int))).setCell ⟨w.heap.size + 1, 1, none⟩ (.int .i64 (s2 : Int))).setCell ⟨w.heap.size + 1, 2, none⟩ (.int .i64 (s3 : Int)))) := Kept.setCell (p := ⟨w.heap.size + 1, 2, none⟩) (Kept.setCell (p := ⟨w.heap.size + 1, 1, none⟩) (Kept.setCell (p := ⟨w.heap.size + 1, 0, none⟩) FIN.out (fun z => by simp at z; omega) _) (fun z => by simp at z; omega) _) (fun z => by simp at z; omega) _
            obtain ⟨WF, hWF⟩ : ∃ WF, WF = (((wr.setCell ⟨w.heap.size + 1, 0, none⟩ (.int .i64 (s1 : Int))).setCell ⟨w.heap.size + 1, 1, none⟩ (.int .i64 (s2 : Int))).setCell ⟨w.heap.size + 1, 2, none⟩ (.int .i64 (s3 : Int))) := ⟨_, rfl⟩
            rw [← hWF] at v0 v1 v2 FS
            have HS : Hid (add3 (0, 1, 0) (sum3 (fun x => szT n x.2) l) = (s1, s2, s3)) := hs
            have HW : Hid (WF = (((wr.setCell ⟨w.heap.size + 1, 0, none⟩ (.int .i64 (s1 : Int))).setCell ⟨w.heap.size + 1, 1, none⟩ (.int .i64 (s2 : Int))).setCell ⟨w.heap.size + 1, 2, none⟩ (.int .i64 (s3 : Int)))) := hWF
            clear hOk hF ho hs hWF
            go_wp2_with fail
            rw [← HW.out]
            exact bodyPost_ret (v := .agg #[.int .i64 (s1 : Int), .int .i64 (s2 : Int), .int .i64 (s3 : Int)]) (by simp [results, Tryz.results24, go_sem, v0, v1, v2]) rfl ⟨by rw [HS.out], FS.out⟩
      · have q1 : (k == 1) = false := by simpa using hk1
        have q2 : (k == 2) = false := by simpa using hk2
        have q3 : (k == 3) = false := by simpa using hk3
        have e1 : szT (n + 1) (k, r, p, l) = (0, 0, 0) := by simp [szT, kind3, add3, hk1, hk2, hk3]
        rw [e1]
        clear a6 IH a2 a3 a4 hsk hlen e1 hk1 hk2 hk3
        go_enter Tryz.func24, Tryz.ntmps24
        go_wp2
        exact bodyPost_ret (v := .agg #[.int .i64 0, .int .i64 0, .int .i64 0]) (by simp [results, Tryz.results24, go_sem]) rfl ⟨rfl, (((Kept.refl _ w).alloc _).alloc _).alloc _⟩
theorem rz_any : ∀ n, RZIH n
  | 0 => fun w v t B h => h.elim
  | n + 1 => rz_step (rz_any n)
end Go.Proofs.YtlemcinjalepkaaGreat
/- The walk of TreeCounts. -/
namespace Go.Proofs.YtlemcinjalepkaaGreat
set_option maxRecDepth 100000
set_option linter.unusedVariables false
open Go.RowKit
attribute [local go_sem ↓] Go.wp_at_zero Go.wp_at_succ
set_option maxHeartbeats 8000000 in
theorem counts_walk {w : World} {n : Nat} {v : Value} {t : Tr n} (h : CsB (fun b => b < w.heap.size) w n v t) (hs : SmK n t) (hr : (rulesF n t).length ≤ 4000000) (hz : Le3 (szT n t)) :
    Calls Tryz.prog 6 #[v] w fun e w' => e = .returned (.bool true) ∧ Below w.heap.size w w' := by
  obtain ⟨k, r, po, pl, pc, ko, kl, kc, rfl⟩ := h.shape
  obtain ⟨W1, hW1⟩ : ∃ W1, W1 = w.alloc (.cells #[.int .i64 k, .int .i64 r, .slice po pl pc, .slice ko kl kc] 35) := ⟨_, rfl⟩
  have KW : Same0 w W1 := by rw [hW1]; exact (Kept.refl _ w).alloc _
  have h0 : W1.heap[w.heap.size]? = some (.cells #[.int .i64 k, .int .i64 r, .slice po pl pc, .slice ko kl kc] 35 (0, 0)) := by rw [hW1]; exact heap_alloc_new w _
  have BX : Hid (∀ ww, Same0 W1 ww → ww.cell? ⟨w.heap.size, 0, none⟩ = some (.int .i64 k) ∧ ww.cell? ⟨w.heap.size, 1, none⟩ = some (.int .i64 r) ∧ ww.cell? ⟨w.heap.size, 2, none⟩ = some (.slice po pl pc) ∧ ww.cell? ⟨w.heap.size, 3, none⟩ = some (.slice ko kl kc)) := fun ww hk => by
    have h1 := hk.at0 h0
    exact ⟨cellAt h1 0, cellAt h1 1, cellAt h1 2, cellAt h1 3⟩
  have CS : ∀ ww, Same0 W1 ww → CsB (fun b => b < ww.heap.size) ww n (.agg #[.int .i64 k, .int .i64 r, .slice po pl pc, .slice ko kl kc]) t := fun ww hk => by
    have k2 : Same0 w ww := Kept.trans KW hk (fun _ _ z => z)
    have z2 := k2.size
    exact CsB.mono (fun b _ q => Nat.lt_of_lt_of_le q z2) (h.same k2)
  have CA := awake8_any W1
  have CR : Hid (∀ ww, Same0 W1 ww → Calls Tryz.prog 20 #[.agg #[.int .i64 k, .int .i64 r, .slice po pl pc, .slice ko kl kc]] ww fun e w' => ∃ ao cap, e = .returned (.slice ao (rulesF n t).length cap) ∧ Hid (Row ww.heap.size w' (.slice ao (rulesF n t).length cap) (rulesF n t)) ∧ Same0 ww w') := fun ww hk => (trules_any (CS ww hk) hr hs).mono (fun e w' ⟨lv, f1, f2, f3⟩ => by
    obtain ⟨ao, cap, rfl⟩ := row_shape f2
    exact ⟨ao, cap, f1, f2, f3⟩)
  have CT : Hid (∀ ww, Same0 W1 ww → Calls Tryz.prog 21 #[.agg #[.int .i64 k, .int .i64 r, .slice po pl pc, .slice ko kl kc], .slice none 0 0] ww fun e w' => ∃ ao cap, e = .returned (.slice ao (rulesF n t).length cap) ∧ Hid (Row ww.heap.size w' (.slice ao (rulesF n t).length cap) (rulesF n t)) ∧ Same0 ww w') := fun ww hk => (rr_any n ww _ t _ ww.heap.size (.slice none 0 0) [] (CS ww hk) (World.ownsRow_nil _ _ _ _) (Nat.le_refl _) (fun b _ e => by simp [Value.ownBlock] at e) (by simpa using hr) hs).mono (fun e w' ⟨lv, f1, f2, f3, f4⟩ => by
    rw [List.nil_append] at f2
    obtain ⟨ao, cap, rfl⟩ := row_shape f2
    exact ⟨ao, cap, f1, f2, f4.mono (fun _ _ e => by simp [Value.ownBlock] at e)⟩)
  have CZ : Hid (∀ ww, Same0 W1 ww → Calls Tryz.prog 23 #[.agg #[.int .i64 k, .int .i64 r, .slice po pl pc, .slice ko kl kc]] ww fun e w' => e = .returned (.tuple #[.int .i64 ((szT n t).1 : Int), .int .i64 ((szT n t).2.1 : Int), .int .i64 ((szT n t).2.2 : Int)]) ∧ Same0 ww w') := fun ww hk => tsize_any (CS ww hk) hz hs
  have CY : Hid (∀ ww, Same0 W1 ww → Calls Tryz.prog 24 #[.agg #[.int .i64 k, .int .i64 r, .slice po pl pc, .slice ko kl kc]] ww fun e w' => e = .returned (.agg #[.int .i64 ((szT n t).1 : Int), .int .i64 ((szT n t).2.1 : Int), .int .i64 ((szT n t).2.2 : Int)]) ∧ Same0 ww w') := fun ww hk => rz_any n ww _ t _ (CS ww hk) hz hs
  have SM : Hid (∀ ww ao ac bo bc, IntsAt ww ao (rulesF n t) → IntsAt ww bo (rulesF n t) → Calls Tryz.prog 22 #[.slice ao (rulesF n t).length ac, .slice bo (rulesF n t).length bc] ww fun e w' => e = .returned (.bool true) ∧ Same0 ww w') := fun ww ao ac bo bc h1 h2 => by
    have := same_any (acap := ac) (bcap := bc) h1 h2 (by unfold maxLen; omega)
    simpa [sameB] using this
  clear CS h h0
  generalize rulesF n t = R at *
  generalize szT n t = S at *
  obtain ⟨s1, s2, s3⟩ := S
  go_enter Tryz.func6, Tryz.ntmps6
  go_upto_region 1 with fail
  rw [← hW1]
  clear hW1
  go_upto_region 2 with (first | (go_at_call 9; refine CA.mono ?_; rintro e w2 ⟨rfl, k2⟩))
  obtain ⟨x0, x1, x2, x3⟩ := BX.out w2 k2
  go_upto_region 3 with (first | (go_at_call 20; refine (CR.out w2 k2).mono ?_; rintro e w3 ⟨ao, ac, rfl, R3, k23⟩))
  have k3 : Same0 W1 w3 := Kept.trans k2 k23 (fun _ _ z => z)
  clear x0 x1 x2 x3
  obtain ⟨x0, x1, x2, x3⟩ := BX.out w3 k3
  go_upto_region 4 with (first | (go_at_call 21; refine (CT.out w3 k3).mono ?_; rintro e w4 ⟨bo, bc, rfl, R4, k34⟩))
  clear x0 x1 x2 x3
  have k4 : Same0 W1 w4 := Kept.trans k3 k34 (fun _ _ z => z)
  have r3 := k34.row R3.out (fun _ _ f => f)
  have SS := SM.out w4 ao ac bo bc (by obtain ⟨a1, a2, e, i1, _⟩ := Row.ints r3; cases e; exact i1) (by obtain ⟨a1, a2, e, i1, _⟩ := Row.ints R4.out; cases e; exact i1)
  go_upto_region 5 with (first | (go_at_call 22; refine SS.mono ?_; rintro e w5 ⟨rfl, k45⟩))
  have k5 : Same0 W1 w5 := Kept.trans k4 k45 (fun _ _ z => z)
  have HB1 : Hid (∀ q, (Value.slice ao R.length ac).ownBlock = some q → w2.heap.size ≤ q ∧ q < w3.heap.size) := fun q e => by
    obtain ⟨a1, a2, ee, _, _, i2⟩ := Row.ints R3.out
    cases ee
    cases ao with
    | none => simp [Value.ownBlock] at e
    | some a => simp only [Value.ownBlock, Option.some.injEq] at e; subst e; exact i2 a rfl
  have HB2 : Hid (∀ q, (Value.slice bo R.length bc).ownBlock = some q → w3.heap.size ≤ q) := fun q e => by
    obtain ⟨a1, a2, ee, _, _, i2⟩ := Row.ints R4.out
    cases ee
    cases bo with
    | none => simp [Value.ownBlock] at e
    | some a => simp only [Value.ownBlock, Option.some.injEq] at e; subst e; exact (i2 a rfl).1
  have R0 : Hid (OverA w2.heap.size (.slice ao R.length ac) (fun q => (Value.slice ao R.length ac).ownBlock = some q) R.length w5 w5) := ⟨R, rfl, k45.row r3 (fun _ _ f => f), fun q e => e, Kept.refl _ _⟩
  have R5 : Hid (Row w3.heap.size w5 (.slice bo R.length bc) R) := k45.row R4.out (fun _ _ f => f)
  have HL : Hid (R.length ≤ 4000000) := hr
  have HK : Hid (∀ wr, OverA w2.heap.size (.slice ao R.length ac) (fun q => (Value.slice ao R.length ac).ownBlock = some q) R.length w5 wr → Same0 W1 wr ∧ Hid (Row w3.heap.size wr (.slice bo R.length bc) R)) := fun wr ⟨zs, _, _, hBz, hKz⟩ => by
    have z2 := k2.size
    refine ⟨Kept.trans k5 hKz (fun i hi e => ?_), hKz.row R5.out (fun q e f => ?_)⟩
    · have := (HB1.out i e).1; omega
    · have := (HB1.out q f).2; have := HB2.out q e; omega
  clear SS r3 R3 R4 CA R5 k45 k34 k23 k4 k3 HB1 HB2 CT hr
  go_wp2_with fail
  go_loopw [7] (fun i wr => ∃ j : Nat, j ≤ R.length ∧ i = .int .i64 (j : Int) ∧ Hid (OverA w2.heap.size (.slice ao R.length ac) (fun q => (Value.slice ao R.length ac).ownBlock = some q) R.length w5 wr)) (fun i _ => R.length - (intOf i).toNat)
  case atStart => exact ⟨0, Nat.zero_le _, rfl, R0⟩
  case round =>
    clear R0
    obtain ⟨j, hj, rfl, hO⟩ := hrel
    by_cases hlt : j < R.length
    · obtain ⟨g, rfl, old, f1, f2⟩ := hO.out.at hlt
      have hO' : Hid _ := hO.out.store j (-1)
      have hl2 := HL.out
      have hl3 : IntKind.i64.wrap ((j : Int) + 1) = (j : Int) + 1 := iwrap (by omega) (by omega)
      have j1 : (0 : Int) ≤ (j : Int) := by omega
      have j2 : (j : Int) < (R.length : Int) := by omega
      clear hO
      go_wp2_with fail
      exact ⟨⟨j + 1, by omega, by go_num, hO'⟩, by simp [intOf]; omega⟩
    · obtain rfl : j = R.length := by omega
      obtain ⟨kr, R6⟩ := HK.out wr hO.out
      clear hO HK
      obtain ⟨x0, x1, x2, x3⟩ := BX.out wr kr
      go_upto_region 9 with fail
      have SQ : Hid (∀ w7 co cc, Hid (Row wr.heap.size w7 (.slice co R.length cc) R) → Same0 wr w7 → Calls Tryz.prog 22 #[.slice co R.length cc, .slice bo R.length bc] w7 fun e w' => e = .returned (.bool true) ∧ Same0 w7 w') := fun w7 co cc r7 k7 => SM.out w7 co cc bo bc (by obtain ⟨a1, a2, e, i1, _⟩ := Row.ints r7.out; cases e; exact i1) (by obtain ⟨a1, a2, e, i1, _⟩ := Row.ints (k7.row R6.out (fun _ _ f => f)); cases e; exact i1)
      go_upto_region 10 with (first | (go_at_call 20; refine (CR.out wr kr).mono ?_; rintro e w7 ⟨co, cc, rfl, R7, k67⟩) | (go_at_call 22; refine (SQ.out w7 co cc R7 k67).mono ?_; rintro e w8 ⟨rfl, k78⟩))
      have k8 : Same0 W1 w8 := Kept.trans (Kept.trans kr k67 (fun _ _ z => z)) k78 (fun _ _ z => z)
      clear x0 x1 x2 x3 R7 R6 k67 k78
      obtain ⟨x0, x1, x2, x3⟩ := BX.out w8 k8
      go_upto_region 11 with (first | (go_at_call 23; refine (CZ.out w8 k8).mono ?_; rintro e w9 ⟨rfl, k89⟩))
      have k9 : Same0 W1 w9 := Kept.trans k8 k89 (fun _ _ z => z)
      clear x0 x1 x2 x3
      obtain ⟨x0, x1, x2, x3⟩ := BX.out w9 k9
      go_upto_region 12 with (first | (go_at_call 24; refine (CY.out w9 k9).mono ?_; rintro e w10 ⟨rfl, k910⟩))
      have FIN : Hid (Same0 w (w10.alloc (.cells #[.int .i64 (s1 : Int), .int .i64 (s2 : Int), .int .i64 (s3 : Int)] 65))) := Kept.alloc (Kept.trans (Kept.trans KW k9 (fun _ _ z => z)) k910 (fun _ _ z => z)) _
      go_wp2_with fail
      go_ret
      exact ⟨rfl, FIN.out.below⟩
end Go.Proofs.YtlemcinjalepkaaGreat
/- A case tree that came in: its shape. -/
namespace Go.Proofs.YtlemcinjalepkaaGreat
set_option maxRecDepth 100000
set_option linter.unusedVariables false
open Go.RowKit Go.Deep
section
variable {H : Type} {enc : TypeId × Value → H} {w : World} {spare : Nat → Bool} {held : Bool}
theorem trod_struct4 {P : Program} {base : Nat} {t : TypeId} {f0 f1 f2 f3 : Field} {fuel : Nat} {cs : List Value} {x : DataW H × List MemPlace} (ht : P.underlying t = some (.struct #[f0, f1, f2, f3])) (h : DataW.trod enc P w base spare held fuel t cs = some x) :
    ∃ y0 y1 y2 y3 n, n < fuel ∧ x.1 = .agg [y0.1, y1.1, y2.1, y3.1] ∧ cs.length = P.cellsOf t ∧ DataW.trod enc P w base spare held n f0.type ((cs.drop f0.offset).take (P.cellsOf f0.type)) = some y0 ∧
      DataW.trod enc P w base spare held n f1.type ((cs.drop f1.offset).take (P.cellsOf f1.type)) = some y1 ∧ DataW.trod enc P w base spare held n f2.type ((cs.drop f2.offset).take (P.cellsOf f2.type)) = some y2 ∧
      DataW.trod enc P w base spare held n f3.type ((cs.drop f3.offset).take (P.cellsOf f3.type)) = some y3 := by
  obtain ⟨xs, n, hn, rfl, hl, hlen, hf⟩ := DataW.trod_struct ht h
  match xs, hlen with
  | [y0, y1, y2, y3], _ => exact ⟨y0, y1, y2, y3, n, by omega, by simp, hl, by simpa using hf 0 f0 rfl, by simpa using hf 1 f1 rfl, by simpa using hf 2 f2 rfl, by simpa using hf 3 f3 rfl⟩
theorem cells_Cs : Tryz.prog.cellsOf 35 = 4 := by kernel_rfl
theorem cells_kids : Tryz.prog.cellsOf 33 = 1 := by kernel_rfl
end
end Go.Proofs.YtlemcinjalepkaaGreat
/- A case tree that came in, read whole; its bulk bounds its leaves and nodes. -/
namespace Go.Proofs.YtlemcinjalepkaaGreat
set_option maxRecDepth 100000
set_option linter.unusedVariables false
open Go.RowKit Go.Deep
theorem bulk_one8 {H : Type} (d : DataW H) : 1 ≤ Rows.uptoBulk d := by
  cases d with
  | lit l => cases l <;> simp [Rows.uptoBulk]
  | nil => simp [Rows.uptoBulk]
  | ptr d => simp [Rows.uptoBulk]
  | slice elems spare => simp [Rows.uptoBulk]
  | agg parts => simp [Rows.uptoBulk]
  | iface t d => simp [Rows.uptoBulk]
  | map entries => simp [Rows.uptoBulk]
  | held h => simp [Rows.uptoBulk]
theorem bulk_part8 {H : Type} {d : DataW H} {l : List (DataW H)} (h : d ∈ l) : Rows.uptoBulk d ≤ Rows.uptoBulkAll l := by
  induction l with
  | nil => cases h
  | cons x r ih =>
    simp only [Rows.uptoBulkAll]
    rcases List.mem_cons.1 h with e | e
    · subst e; omega
    · have := ih e; omega
theorem bulk_length8 {H : Type} (l : List (DataW H)) : l.length ≤ Rows.uptoBulkAll l := by
  induction l with
  | nil => simp [Rows.uptoBulkAll]
  | cons x r ih => have := bulk_one8 x; simp only [Rows.uptoBulkAll, List.length_cons]; omega
theorem flat_bulk {α H : Type} (g : α → List Int) : ∀ (L : List α) (E : List (DataW H)), L.length = E.length → (∀ i (h : i < L.length) (h' : i < E.length), (g L[i]).length ≤ Rows.uptoBulk E[i]) → (L.flatMap g).length ≤ Rows.uptoBulkAll E
  | [], E, _, _ => by simp
  | x :: L, [], h, _ => by simp at h
  | x :: L, e :: E, h, hi => by
    have h0 : (g x).length ≤ Rows.uptoBulk e := hi 0 (by simp) (by simp)
    have h1 := flat_bulk g L E (by simpa using h) (fun i h1 h2 => hi (i + 1) (by simpa using h1) (by simpa using h2))
    simp only [List.flatMap_cons, List.length_append, Rows.uptoBulkAll]
    omega
def LeN (a : T3) (m : Nat) : Prop := a.1 ≤ m ∧ a.2.1 ≤ m ∧ a.2.2 ≤ m
theorem sum3_bulk {α H : Type} (g : α → T3) : ∀ (L : List α) (E : List (DataW H)), L.length = E.length → (∀ i (h : i < L.length) (h' : i < E.length), LeN (g L[i]) (Rows.uptoBulk E[i])) → LeN (sum3 g L) (Rows.uptoBulkAll E)
  | [], E, _, _ => by simp [sum3, LeN]
  | x :: L, [], h, _ => by simp at h
  | x :: L, e :: E, h, hi => by
    have h0 : LeN (g x) (Rows.uptoBulk e) := hi 0 (by simp) (by simp)
    have h1 := sum3_bulk g L E (by simpa using h) (fun i h1 h2 => hi (i + 1) (by simpa using h1) (by simpa using h2))
    obtain ⟨p1, p2, p3⟩ := h0
    obtain ⟨q1, q2, q3⟩ := h1
    refine ⟨?_, ?_, ?_⟩ <;> (simp only [sum3, add3, Rows.uptoBulkAll]; omega)
section
variable {H : Type} {enc : TypeId × Value → H} {w : World} {spare : Nat → Bool} {held : Bool}
theorem open_elemsD {t e c fuel : Nat} {ao : Option Addr} {len cap : Nat} {x : DataW H × List MemPlace} (ht : Tryz.prog.underlying t = some (.slice e)) (hc : Tryz.prog.cellsOf e = c) (h0 : 0 < c) (h : DataW.trod enc Tryz.prog w 0 spare held fuel t [.slice ao len cap] = some x) :
    (ao = none ∧ len = 0 ∧ cap = 0) ∨ ∃ (a : Addr) (E : List (DataW H)), ao = some a ∧ len ≤ cap ∧ cap ≤ maxLen ∧ E.length = len ∧ Rows.uptoBulkAll E < Rows.uptoBulk x.1 ∧ ∀ i (hi : i < E.length), a = ⟨a.block, a.off, none⟩ ∧ a.block < w.heap.size ∧ ∃ cs n y, cs.length = c ∧ (∀ j, j < c → w.cell? ⟨a.block, a.off + i * c + j, none⟩ = cs[j]?) ∧ DataW.trod enc Tryz.prog w 0 spare held n e cs = some y ∧ y.1 = E[i] := by
  rcases open_slice ht h with ⟨hcs, _⟩ | ⟨a, len', cap', m, n, D, Pl, hcs, _, hl, hm, hmm, rfl, hx⟩
  · simp at hcs; exact .inl ⟨hcs.1, hcs.2.1, hcs.2.2⟩
  · simp at hcs
    obtain ⟨rfl, rfl, rfl⟩ := hcs
    refine .inr ⟨a, (List.range len).map D, rfl, hl, hm, by simp, by simp only [Rows.uptoBulk]; omega, fun i hi => ?_⟩
    have hi : i < len := by simpa using hi
    have hmi : i < m := by rw [hmm]; split <;> omega
    have hm0 : 0 < m := by omega
    obtain ⟨cs0, g0, _⟩ := hx 0 hm0
    rw [hc] at g0
    obtain ⟨_, gl, gc⟩ := World.cells?_some g0
    have hsp : a.spot = none := by
      have := gc 0 h0
      have hv : cs0[0]? = some (cs0[0]'(by omega)) := List.getElem?_eq_getElem (by omega)
      rw [hv] at this
      simp [Addr.add] at this
      exact World.cell?_spot this
    have hlt : a.block < w.heap.size := World.cells?_block (by simpa [Addr.add] using g0) h0
    have ea : a = ⟨a.block, a.off, none⟩ := by cases a; simp_all
    obtain ⟨cs, g1, g2⟩ := hx i hmi
    rw [hc] at g1
    obtain ⟨_, gl1, gc1⟩ := World.cells?_some g1
    refine ⟨ea, hlt, cs, n, _, gl1, fun j hj => ?_, g2, by simp⟩
    rw [← gc1 j hj, add_add]
    congr 1
    unfold Addr.add
    split
    · rw [ea]; simp; omega
    · simp
theorem open_ints8 {fuel : Nat} {ao : Option Addr} {len cap : Nat} {x : DataW H × List MemPlace} (h : DataW.trod enc Tryz.prog w 0 spare held fuel 32 [.slice ao len cap] = some x) (hb : Rows.uptoBulk x.1 ≤ 2000000) : ∃ xs : List Int, len = xs.length ∧ Arg w ao xs cap := by
  rcases open_elemsD Tryz.underlying32 cells_int (by omega) h with ⟨rfl, rfl, rfl⟩ | ⟨a, E, rfl, h1, h2, h3, h4, hall⟩
  · exact ⟨[], rfl, .inl rfl, Nat.le_refl _, fun _ => ⟨rfl, rfl⟩, by simp⟩
  · have each : ∀ i, i < len → ∃ z : Int, w.cell? ⟨a.block, a.off + i, none⟩ = some (.int .i64 z) := by
      intro i hi
      obtain ⟨_, _, cs, n, y, hl, hcell, hy, _⟩ := hall i (by omega)
      obtain ⟨z, e1, _, _⟩ := DataW.trod_int Tryz.underlying3 hy
      subst e1
      exact ⟨z, by simpa using hcell 0 (by omega)⟩
    obtain ⟨f, hf⟩ := Classical.axiomOfChoice (fun i : Fin len => each i i.2)
    have h5 := bulk_length8 E
    refine ⟨List.ofFn f, by simp, ?_, by simpa using h1, (fun e => by cases e), by simp; omega⟩
    by_cases h0 : len = 0
    · subst h0; exact .inl (by simp)
    · obtain ⟨ea, hlt, _⟩ := hall 0 (by omega)
      refine .inr ⟨a.block, a.off, by rw [← ea], hlt, fun i hi => ?_⟩
      have hi' : i < len := by simpa using hi
      simpa using hf ⟨i, hi'⟩
theorem cells_kid : Tryz.prog.cellsOf 85 = 5 := by kernel_rfl
/-- What is told of a tree that was read. -/
def Told (w : World) (N : Nat) (cs : List Value) (m : Nat) : Prop := ∃ t : Tr N, CsB (fun b => b < w.heap.size) w N (.agg cs.toArray) t ∧ SmK N t ∧ (rulesF N t).length ≤ m ∧ LeN (szT N t) m
def TIH (enc : TypeId × Value → H) (w : World) (spare : Nat → Bool) (held : Bool) (N : Nat) : Prop := ∀ (fuel : Nat) (cs : List Value) (x : DataW H × List MemPlace), DataW.trod enc Tryz.prog w 0 spare held fuel 35 cs = some x → Rows.uptoBulk x.1 < N → Rows.uptoBulk x.1 ≤ 2000000 → Told w N cs (Rows.uptoBulk x.1)
theorem open_kid {N fuel : Nat} {cs : List Value} {y : DataW H × List MemPlace} (IH : TIH enc w spare held N) (h : DataW.trod enc Tryz.prog w 0 spare held fuel 85 cs = some y) (hN : Rows.uptoBulk y.1 ≤ N) (hb : Rows.uptoBulk y.1 ≤ 2000000) :
    ∃ (z : Int) (c0 c1 c2 c3 : Value), cs = [.int .i64 z, c0, c1, c2, c3] ∧ Told w N [c0, c1, c2, c3] (Rows.uptoBulk y.1) := by
  obtain ⟨y0, y1, n', hyd, hl', g0, g1⟩ := trod_pair7 Tryz.underlying85 h
  rw [cells_kid] at hl'
  match cs, hl' with
  | [c, c0, c1, c2, c3], _ =>
    simp only [cells_int, cells_Cs, List.drop_zero, List.take_succ_cons, List.take_zero, List.drop_succ_cons] at g0 g1
    obtain ⟨z, e1, _, _⟩ := DataW.trod_int Tryz.underlying3 g0
    simp only [List.cons.injEq, and_true] at e1
    subst e1
    have e2 : Rows.uptoBulk y1.1 < Rows.uptoBulk y.1 := by rw [hyd]; simp only [Rows.uptoBulk, Rows.uptoBulkAll]; omega
    obtain ⟨t, q1, q2, q3, q4⟩ := IH _ _ _ g1 (by omega) (by omega)
    exact ⟨z, c0, c1, c2, c3, rfl, t, q1, q2, by omega, by obtain ⟨a1, a2, a3⟩ := q4; exact ⟨by omega, by omega, by omega⟩⟩
theorem open_tree_step {N : Nat} (IH : TIH enc w spare held N) : TIH enc w spare held (N + 1) := by
  intro fuel cs x h hN hb
  obtain ⟨y0, y1, y2, y3, n, _, hd, hl, h0, h1, h2, h3⟩ := trod_struct4 Tryz.underlying35 h
  rw [cells_Cs] at hl
  match cs, hl with
  | [c0, c1, c2, c3], _ =>
    simp only [cells_int, cells_ints, cells_kids, List.drop_zero, List.take_succ_cons, List.take_zero, List.drop_succ_cons] at h0 h1 h2 h3
    obtain ⟨k, e0, _, _⟩ := DataW.trod_int Tryz.underlying3 h0
    obtain ⟨r, e1, _, _⟩ := DataW.trod_int Tryz.underlying3 h1
    obtain ⟨po, pl, pc, rfl⟩ := slice_one Tryz.underlying32 h2
    obtain ⟨ko, kl, kc, rfl⟩ := slice_one Tryz.underlying33 h3
    simp only [List.cons.injEq, and_true] at e0 e1
    subst e0 e1
    have hbx : Rows.uptoBulk x.1 = Rows.uptoBulk y0.1 + (Rows.uptoBulk y1.1 + (Rows.uptoBulk y2.1 + (Rows.uptoBulk y3.1 + 0))) + 1 := by rw [hd]; simp only [Rows.uptoBulk, Rows.uptoBulkAll]
    obtain ⟨p, rfl, hp⟩ := open_ints8 h2 (by omega)
    have hpB : p = [] ∨ ∀ a, po = some a → a.block < w.heap.size := by
      rcases hp.at' with e | ⟨b, off, e, hlt, _⟩
      · exact .inl (by simpa using e)
      · exact .inr (fun a ea => by rw [e] at ea; cases ea; exact hlt)
    rcases open_elemsD Tryz.underlying33 cells_kid (by omega) h3 with ⟨rfl, rfl, rfl⟩ | ⟨a, E, rfl, g1, g2, g3, g4, hall⟩
    · refine ⟨(k, r, p, []), ⟨po, pc, none, 0, rfl, hp, hpB, fun _ => rfl, Nat.le_refl _, .inl rfl⟩, ⟨by simp, fun i h => by simp at h⟩, ?_, ?_⟩
      · simp only [rulesF]
        split
        · simp; omega
        · split <;> simp
      · simp only [szT, sum3, ite_self, kind3]
        refine ⟨?_, ?_, ?_⟩ <;> (simp only [add3]; split <;> (try split) <;> (try split) <;> simp <;> omega)
    · have each : ∀ i : Fin kl, ∃ z : Int × Tr N, (∃ c0 c1 c2 c3, w.cell? ⟨a.block, a.off + i * 5, none⟩ = some (.int .i64 z.1) ∧ w.cell? ⟨a.block, a.off + i * 5 + 1, none⟩ = some c0 ∧ w.cell? ⟨a.block, a.off + i * 5 + 2, none⟩ = some c1 ∧ w.cell? ⟨a.block, a.off + i * 5 + 3, none⟩ = some c2 ∧ w.cell? ⟨a.block, a.off + i * 5 + 4, none⟩ = some c3 ∧ CsB (fun b => b < w.heap.size) w N (.agg #[c0, c1, c2, c3]) z.2) ∧ SmK N z.2 ∧ (rulesF N z.2).length ≤ Rows.uptoBulk (E[i.1]'(by omega)) ∧ LeN (szT N z.2) (Rows.uptoBulk (E[i.1]'(by omega))) := by
        intro ⟨i, hi⟩
        obtain ⟨_, _, cs, n, y, hl, hcell, hy, hye⟩ := hall i (by omega)
        have hle := bulk_part8 (List.getElem_mem (l := E) (n := i) (by omega))
        obtain ⟨z, d0, d1, d2, d3, rfl, t, q1, q2, q3, q4⟩ := open_kid IH hy (by rw [hye]; omega) (by rw [hye]; omega)
        rw [hye] at q3 q4
        exact ⟨(z, t), ⟨d0, d1, d2, d3, by simpa using hcell 0 (by omega), by simpa using hcell 1 (by omega), by simpa using hcell 2 (by omega), by simpa using hcell 3 (by omega), by simpa using hcell 4 (by omega), q1⟩, q2, q3, q4⟩
      obtain ⟨f, hf⟩ := Classical.axiomOfChoice each
      have h5 := bulk_length8 E
      obtain ⟨l, hl⟩ : ∃ l : List (Int × Tr N), l = List.ofFn f := ⟨_, rfl⟩
      have hll : l.length = kl := by rw [hl]; simp
      have hli : ∀ i (hi : i < l.length), l[i] = f ⟨i, by omega⟩ := fun i hi => by subst hl; simp
      have F1 : (l.flatMap (fun x => rulesF N x.2)).length ≤ Rows.uptoBulkAll E := flat_bulk _ l E (by omega) (fun i h1 h2 => by rw [hli]; exact (hf ⟨i, by omega⟩).2.2.1)
      have F2 : LeN (sum3 (fun x => szT N x.2) l) (Rows.uptoBulkAll E) := sum3_bulk _ l E (by omega) (fun i h1 h2 => by rw [hli]; exact (hf ⟨i, by omega⟩).2.2.2)
      subst hll
      refine ⟨(k, r, p, l), ⟨po, pc, some a, kc, rfl, hp, hpB, (fun e => by cases e), g1, ?_⟩, ⟨by omega, fun i hi => by rw [hli]; exact (hf ⟨i, hi⟩).2.1⟩, ?_, ?_⟩
      · by_cases h0 : l.length = 0
        · exact .inl (by simpa using h0)
        · obtain ⟨ea, hlt, _⟩ := hall 0 (by omega)
          refine .inr ⟨a.block, a.off, by rw [← ea], hlt, hlt, fun i hi => ?_⟩
          rw [hli]
          exact (hf ⟨i, hi⟩).1
      · simp only [rulesF]
        split
        · simp; omega
        · split
          · omega
          · simp
      · obtain ⟨f1, f2, f3⟩ := F2
        simp only [szT, kind3]
        refine ⟨?_, ?_, ?_⟩ <;> (simp only [add3]; split <;> (try split) <;> (try split) <;> simp <;> omega)
theorem open_tree : ∀ N, TIH enc w spare held N
  | 0 => fun _ _ _ _ h _ => by omega
  | N + 1 => open_tree_step (open_tree N)
end
end Go.Proofs.YtlemcinjalepkaaGreat
