/- The walk of SigPlays. -/
import Derived.Test.YtaaoomociddopaaPlayStart
import Derived.Test.YtaaoomociddopaaSigBackW
namespace Go.Proofs.Ytaaoomociddopaa
open Go.RowKit
attribute [local go_sem ↓] Go.wp_at_zero Go.wp_at_succ
set_option maxRecDepth 100000 in
set_option maxHeartbeats 2000000 in
theorem plays_walk (ao : Option Addr) (len cap : Nat) (xs : List OpD) (w : World) (hx : OpsAt w ao len xs) (hm : len ≤ maxLen) :
    Calls Try.prog 5 #[.slice ao len cap] w fun e w' => e = .returned (.bool true) ∧ Below w.heap.size w w' := by
  unfold maxLen at hm
  go_enter Try.func5, Try.ntmps5
  go_wp2_with (first | (go_at_call 8; refine (awake_any _).mono ?_; rintro e wa ⟨rfl, hb⟩) | (go_at_call 13; refine (new_any _).mono ?_; rintro e w' ⟨rfl, rfl⟩))
  go_loopw [8, 9, 10, 11] (fun i _ _ _ wr => ∃ k : Nat, k ≤ len ∧ i = .int .i64 k ∧ PlayRel wa.heap.size wa wr) (fun i _ _ _ _ => len - (intOf i).toNat)
  case atStart => exact ⟨0, Nat.zero_le _, rfl, play_start wa⟩
  case round =>
    obtain ⟨k, hk, rfl, x, y, hc, hl, hr⟩ := hrel
    have hbw : Below w.heap.size w wr := below_from hb hc.kp
    have l0 : wr.cell? ⟨wa.heap.size + 1 + 1, 0, none⟩ = some (pt x.b) := cellAt hl 0
    have l1 : wr.cell? ⟨wa.heap.size + 1 + 1, 1, none⟩ = some (pt y.b) := cellAt hl 1
    have r0 : wr.cell? ⟨wa.heap.size + 1 + 1 + 1 + 1 + 1, 0, none⟩ = some (pt x.rb) := cellAt hr 0
    have r1 : wr.cell? ⟨wa.heap.size + 1 + 1 + 1 + 1 + 1, 1, none⟩ = some (pt y.rb) := cellAt hr 1
    by_cases hlt : k < len
    · obtain ⟨xb, off, o, rfl, hxb, hoc, won, wn, wsz⟩ := hx.op hlt
      have hor := hoc.kept hbw hxb
      have a0 := hor.on
      have a1 := hor.kd
      have a2 := hor.n
      have a3 := hor.nm
      have a4 := hor.ar
      have a5 := hor.df
      have i1 : (0 : Int) ≤ (k : Int) := by omega
      have i2 : (k : Int) < (len : Int) := by omega
      go_wp2_with fail
      refine (pick_any _ 2 _ won (by omega) (by omega)).mono ?_
      rintro e wq ⟨⟨q, hq0, hq1, rfl⟩, rfl⟩
      obtain rfl | rfl : q = 0 ∨ q = 1 := by omega
      · clear hq0 hq1
        have hcd : Core wa.heap.size wa x y wq.drew := (hc).kept (Kept.drew (Kept.refl (fun _ => False) wq)) (fun _ _ f => f) (fun _ _ f => f) (fun _ f => f.elim)
        go_upto_region 12 with fail
        go_cut [10] (fun s10 w2 => s10 = .bool true ∧ Stepped wq.drew x.b x.rb x.sv x.mr x.rv w2)
        case first =>
          go_region_with (first | (go_at_call 15; refine (step_any hcd.p0 o.on o.kd o.n o.x wsz wn).mono ?_; rintro e w2 ⟨rfl, hst⟩))
          all_goals
            go_wp2_with fail
            go_meet
            case rel => exact ⟨rfl, hst⟩
        case rest =>
          obtain ⟨rfl, hst⟩ := hcut
          obtain ⟨L', sv', mr', rv', hc2, hk2⟩ := hcd.step hst
          have hl2 : wc.heap[wa.heap.size + 2]? = some (.cells #[pt x.b, pt y.b] 25 (0, 0)) := hk2.at hl (fun e => (hcd.nx _ e).2.1 rfl)
          have hr2 : wc.heap[wa.heap.size + 5]? = some (.cells #[pt x.rb, pt y.rb] 28 (0, 0)) := hk2.at hr (fun e => (hcd.nx _ e).2.2 rfl)
          have hb2 : Below w.heap.size w wc := below_from hb hc2.kp
          have d1 := (hoc.kept hb2 hxb).kd
          have m0 : wc.cell? ⟨wa.heap.size + 1 + 1, 0, none⟩ = some (pt x.b) := cellAt hl2 0
          clear a0 a1 a2 a3 a4 a5 l0 l1 r0 r1
          by_cases hkd : o.kd = 6
          · have hkd' : (o.kd == 6) = true := by simpa using hkd
            clear hkd
            go_wp2_with fail
            refine (copy_any hc2.p0.sg).mono ?_
            rintro e w3 ⟨b', rfl, hb', hcp⟩
            have hk3 : Kept (fun _ => False) wc w3 := hcp.choose_spec.choose_spec.2.2
            have hl3 := hk3.at hl2 (fun f => f)
            have hr3 := hk3.at hr2 (fun f => f)
            have n1 : w3.cell? ⟨wa.heap.size + 1 + 1, 1, none⟩ = some (pt y.b) := cellAt hl3 1
            have n2 : w3.frozen? ⟨wa.heap.size + 1 + 1, 1, none⟩ = false := frozenAt hl3 1
            have hrm := mid_ref (j := 1) (b' := b') hc2 hk3
            have n3 := hrm.c0
            have n4 : (midW w3 wa.heap.size 1 b').cell? ⟨wa.heap.size + 1 + 1 + 1 + 1 + 1, 0, none⟩ = some (pt x.rb) := cellAt ((mid_kept w3 wa.heap.size 1 b').at hr3 (fun e => by omega)) 0
            have hrow := hrm.row
            rcases hrow.2 with ⟨hv, h0⟩ | ⟨g, cg, cu, hv, _⟩
            · dsimp only at hv h0 n3
              subst hv
              obtain rfl : L' = [] := List.eq_nil_of_length_eq_zero h0
              obtain ⟨n5, n6⟩ := fin_cells (mid_kept w3 wa.heap.size 1 b') hr3 (.cells #[.slice (some ⟨w3.heap.size, 0, none⟩) 0 0] 31) 1
              replace n5 : _ = some (pt y.rb) := n5
              go_wp2_with fail
              go_roundw
              case rel =>
                obtain ⟨sv3, mr3, hok7, hf7, hk7, hl7, hr7⟩ := play_copied (j := 1) hc2.sz hl2 hr2 hcp (mid_own w3 wa.heap.size 1 b') (World.grownBy.refl _ _) (own := none) (by simp) (mid_size _ _ _ _)
                exact ⟨k + 1, by omega, by go_num, ⟨x.b, x.rb, [], sv', mr', .slice none 0 0⟩, ⟨b', w3.heap.size + 1, [], sv3, mr3, .slice (some ⟨w3.heap.size, 0, none⟩) 0 0⟩, hc2.copy hk7 hok7 hf7, hl7, hr7⟩
              case measure => simp [intOf]; omega
            · dsimp only at hv n3
              subst hv
              obtain ⟨i0, hi0, hz0, hz1, hz2⟩ := info_parts info_Symbol
              have hown := mid_own w3 wa.heap.size 1 b'
              have hlen := hc2.p0.sg.len
              dsimp only at hlen
              have hnews : ∀ j u, (symCells L')[j]? = some u → (midW w3 wa.heap.size 1 b').cell? ((⟨g, 0, none⟩ : Addr).add j) = some u := hrow.cells rfl
              have b1 : 0 + L'.length ≤ maxLen := by unfold maxLen; omega
              have b2 : (0 + L'.length) * 32 ≤ 140737488355328 := by omega
              have b3 : w3.heap.size ≤ (midW w3 wa.heap.size 1 b').heap.size := by rw [mid_size]; omega
              have happ : ∃ F : World → Prop, F = fun w6 => ∀ j u, (symCells L')[j]? = some u → w6.cell? ((⟨g, 0, none⟩ : Addr).add j) = some u := ⟨_, rfl⟩
              obtain ⟨F, hF⟩ := happ
              have hnews' : F (midW w3 wa.heap.size 1 b') := by rw [hF]; exact hnews
              clear hnews
              go_wp2_with (first | (at_builtin; refine wpList_append_own _ rfl _ _ 29 rfl w3.heap.size 35 i0 _ 3 32 Try.underlying29 hi0 hz0 hz1 hz2 rfl (by omega) (.slice (some ⟨w3.heap.size, 0, none⟩) 0 0) 0 [] rfl hown ⟨g, 0, none⟩ L'.length cg (symCells L') rfl (symCells_length L') (by rw [hF] at hnews'; exact hnews') (symCells_one L') b1 b2 b3 ?_; intro v6 w6 hown6 hgrow _; rw [Nat.zero_add, List.nil_append] at hown6; obtain ⟨ao6, cp6, rfl⟩ := row_shape hown6; obtain ⟨n5, n6⟩ := fin_cells (Kept.grown (mid_kept w3 wa.heap.size 1 b') hgrow (fun k e hlt => by simp only [Value.ownBlock, Option.some.injEq] at e; omega)) hr3 (.cells #[.slice ao6 L'.length cp6] 31) 1; replace n5 : _ = some (pt y.rb) := n5))
              go_roundw
              case rel =>
                obtain ⟨sv3, mr3, hok7, hf7, hk7, hl7, hr7⟩ := play_copied (j := 1) hc2.sz hl2 hr2 hcp hown6 hgrow (fun k e => by simp only [Value.ownBlock, Option.some.injEq] at e; omega) rfl
                exact ⟨k + 1, by omega, by go_num, ⟨x.b, x.rb, L', sv', mr', .slice (some ⟨g, 0, none⟩) L'.length cg⟩, ⟨b', w6.heap.size, L', sv3, mr3, .slice ao6 L'.length cp6⟩, hc2.copy hk7 hok7 hf7, hl7, hr7⟩
              case measure => simp [intOf]; omega
          · have hkd' : (o.kd == 6) = false := by simpa using hkd
            clear hkd
            go_wp2
            go_roundw
            case rel => exact ⟨k + 1, by omega, by go_num, ⟨x.b, x.rb, L', sv', mr', rv'⟩, y, hc2, hl2, hr2⟩
            case measure => simp [intOf]; omega
      · clear hq0 hq1
        have hcd : Core wa.heap.size wa y x wq.drew := (hc.symm).kept (Kept.drew (Kept.refl (fun _ => False) wq)) (fun _ _ f => f) (fun _ _ f => f) (fun _ f => f.elim)
        go_upto_region 12 with fail
        go_cut [10] (fun s10 w2 => s10 = .bool true ∧ Stepped wq.drew y.b y.rb y.sv y.mr y.rv w2)
        case first =>
          go_region_with (first | (go_at_call 15; refine (step_any hcd.p0 o.on o.kd o.n o.x wsz wn).mono ?_; rintro e w2 ⟨rfl, hst⟩))
          all_goals
            go_wp2_with fail
            go_meet
            case rel => exact ⟨rfl, hst⟩
        case rest =>
          obtain ⟨rfl, hst⟩ := hcut
          obtain ⟨L', sv', mr', rv', hc2, hk2⟩ := hcd.step hst
          have hl2 : wc.heap[wa.heap.size + 2]? = some (.cells #[pt x.b, pt y.b] 25 (0, 0)) := hk2.at hl (fun e => (hcd.nx _ e).2.1 rfl)
          have hr2 : wc.heap[wa.heap.size + 5]? = some (.cells #[pt x.rb, pt y.rb] 28 (0, 0)) := hk2.at hr (fun e => (hcd.nx _ e).2.2 rfl)
          have hb2 : Below w.heap.size w wc := below_from hb hc2.kp
          have d1 := (hoc.kept hb2 hxb).kd
          have m1 : wc.cell? ⟨wa.heap.size + 1 + 1, 1, none⟩ = some (pt y.b) := cellAt hl2 1
          clear a0 a1 a2 a3 a4 a5 l0 l1 r0 r1
          by_cases hkd : o.kd = 6
          · have hkd' : (o.kd == 6) = true := by simpa using hkd
            clear hkd
            go_wp2_with fail
            refine (copy_any hc2.p0.sg).mono ?_
            rintro e w3 ⟨b', rfl, hb', hcp⟩
            have hk3 : Kept (fun _ => False) wc w3 := hcp.choose_spec.choose_spec.2.2
            have hl3 := hk3.at hl2 (fun f => f)
            have hr3 := hk3.at hr2 (fun f => f)
            have n1 : w3.cell? ⟨wa.heap.size + 1 + 1, 0, none⟩ = some (pt x.b) := cellAt hl3 0
            have n2 : w3.frozen? ⟨wa.heap.size + 1 + 1, 0, none⟩ = false := frozenAt hl3 0
            have hrm := mid_ref (j := 0) (b' := b') hc2 hk3
            have n3 := hrm.c0
            have n4 : (midW w3 wa.heap.size 0 b').cell? ⟨wa.heap.size + 1 + 1 + 1 + 1 + 1, 1, none⟩ = some (pt y.rb) := cellAt ((mid_kept w3 wa.heap.size 0 b').at hr3 (fun e => by omega)) 1
            have hrow := hrm.row
            rcases hrow.2 with ⟨hv, h0⟩ | ⟨g, cg, cu, hv, _⟩
            · dsimp only at hv h0 n3
              subst hv
              obtain rfl : L' = [] := List.eq_nil_of_length_eq_zero h0
              obtain ⟨n5, n6⟩ := fin_cells (mid_kept w3 wa.heap.size 0 b') hr3 (.cells #[.slice (some ⟨w3.heap.size, 0, none⟩) 0 0] 31) 0
              replace n5 : _ = some (pt x.rb) := n5
              go_wp2_with fail
              go_roundw
              case rel =>
                obtain ⟨sv3, mr3, hok7, hf7, hk7, hl7, hr7⟩ := play_copied (j := 0) hc2.sz hl2 hr2 hcp (mid_own w3 wa.heap.size 0 b') (World.grownBy.refl _ _) (own := none) (by simp) (mid_size _ _ _ _)
                exact ⟨k + 1, by omega, by go_num, ⟨b', w3.heap.size + 1, [], sv3, mr3, .slice (some ⟨w3.heap.size, 0, none⟩) 0 0⟩, ⟨y.b, y.rb, [], sv', mr', .slice none 0 0⟩, (hc2.copy hk7 hok7 hf7).symm, hl7, hr7⟩
              case measure => simp [intOf]; omega
            · dsimp only at hv n3
              subst hv
              obtain ⟨i0, hi0, hz0, hz1, hz2⟩ := info_parts info_Symbol
              have hown := mid_own w3 wa.heap.size 0 b'
              have hlen := hc2.p0.sg.len
              dsimp only at hlen
              have hnews : ∀ j u, (symCells L')[j]? = some u → (midW w3 wa.heap.size 0 b').cell? ((⟨g, 0, none⟩ : Addr).add j) = some u := hrow.cells rfl
              have b1 : 0 + L'.length ≤ maxLen := by unfold maxLen; omega
              have b2 : (0 + L'.length) * 32 ≤ 140737488355328 := by omega
              have b3 : w3.heap.size ≤ (midW w3 wa.heap.size 0 b').heap.size := by rw [mid_size]; omega
              have happ : ∃ F : World → Prop, F = fun w6 => ∀ j u, (symCells L')[j]? = some u → w6.cell? ((⟨g, 0, none⟩ : Addr).add j) = some u := ⟨_, rfl⟩
              obtain ⟨F, hF⟩ := happ
              have hnews' : F (midW w3 wa.heap.size 0 b') := by rw [hF]; exact hnews
              clear hnews
              go_wp2_with (first | (at_builtin; refine wpList_append_own _ rfl _ _ 29 rfl w3.heap.size 35 i0 _ 3 32 Try.underlying29 hi0 hz0 hz1 hz2 rfl (by omega) (.slice (some ⟨w3.heap.size, 0, none⟩) 0 0) 0 [] rfl hown ⟨g, 0, none⟩ L'.length cg (symCells L') rfl (symCells_length L') (by rw [hF] at hnews'; exact hnews') (symCells_one L') b1 b2 b3 ?_; intro v6 w6 hown6 hgrow _; rw [Nat.zero_add, List.nil_append] at hown6; obtain ⟨ao6, cp6, rfl⟩ := row_shape hown6; obtain ⟨n5, n6⟩ := fin_cells (Kept.grown (mid_kept w3 wa.heap.size 0 b') hgrow (fun k e hlt => by simp only [Value.ownBlock, Option.some.injEq] at e; omega)) hr3 (.cells #[.slice ao6 L'.length cp6] 31) 0; replace n5 : _ = some (pt x.rb) := n5))
              go_roundw
              case rel =>
                obtain ⟨sv3, mr3, hok7, hf7, hk7, hl7, hr7⟩ := play_copied (j := 0) hc2.sz hl2 hr2 hcp hown6 hgrow (fun k e => by simp only [Value.ownBlock, Option.some.injEq] at e; omega) rfl
                exact ⟨k + 1, by omega, by go_num, ⟨b', w6.heap.size, L', sv3, mr3, .slice ao6 L'.length cp6⟩, ⟨y.b, y.rb, L', sv', mr', .slice (some ⟨g, 0, none⟩) L'.length cg⟩, (hc2.copy hk7 hok7 hf7).symm, hl7, hr7⟩
              case measure => simp [intOf]; omega
          · have hkd' : (o.kd == 6) = false := by simpa using hkd
            clear hkd
            go_wp2
            go_roundw
            case rel => exact ⟨k + 1, by omega, by go_num, x, ⟨y.b, y.rb, L', sv', mr', rv'⟩, hc2.symm, hl2, hr2⟩
            case measure => simp [intOf]; omega
    · have hcd : Core wa.heap.size wa x y wr.drew := hc.kept (Kept.drew (Kept.refl (fun _ => False) wr)) (fun _ _ f => f) (fun _ _ f => f) (fun _ f => f.elim)
      obtain ⟨ax, cx, ex⟩ := row_shape hc.p0.rf.row
      have s0 : wr.cell? ⟨x.rb, 0, none⟩ = some (.slice ax x.L.length cx) := by rw [← ex]; exact hc.p0.rf.c0
      have rx : wr.drew.ownsRow 0 35 3 (.slice ax x.L.length cx) x.L.length (symCells x.L) := by rw [← ex]; exact hcd.p0.rf.row
      clear hx
      go_wp2_with fail
      go_cut [12] (fun s12 w2 => s12 = .bool true ∧ Below wr.drew.heap.size wr.drew w2)
      case first =>
        go_region_with (first | (go_at_call 17; refine ((callsIn_wide (n := 9)).1 (ranged_in hcd.p0.sg rx 1 (by omega) (by omega))).mono ?_; rintro e w2 ⟨rfl, hb2⟩))
        all_goals
          go_wp2_with fail
          go_meet
          case rel => exact ⟨rfl, hb2⟩
      case rest =>
        obtain ⟨rfl, hb2⟩ := hcut
        have k2 : Kept (fun _ => False) wr wc := (Kept.drew (Kept.refl _ wr)).trans (Kept.ofBelow hb2) (fun _ _ f => f)
        have hc3 : Core wa.heap.size wa x y wc := hc.kept k2 (fun _ _ f => f) (fun _ _ f => f) (fun _ f => f.elim)
        have l1' : wc.cell? ⟨wa.heap.size + 1 + 1, 1, none⟩ = some (pt y.b) := cellAt (k2.at hl (fun f => f)) 1
        have r1' : wc.cell? ⟨wa.heap.size + 1 + 1 + 1 + 1 + 1, 1, none⟩ = some (pt y.rb) := cellAt (k2.at hr (fun f => f)) 1
        clear l0 l1 r0 r1 s0
        have hcd3 : Core wa.heap.size wa x y wc.drew := hc3.kept (Kept.drew (Kept.refl (fun _ => False) wc)) (fun _ _ f => f) (fun _ _ f => f) (fun _ f => f.elim)
        obtain ⟨ay, cy, ey⟩ := row_shape hc3.p1.rf.row
        have s1 : wc.cell? ⟨y.rb, 0, none⟩ = some (.slice ay y.L.length cy) := by rw [← ey]; exact hc3.p1.rf.c0
        have ry : wc.drew.ownsRow 0 35 3 (.slice ay y.L.length cy) y.L.length (symCells y.L) := by rw [← ey]; exact hcd3.p1.rf.row
        go_wp2_with fail
        go_region_with (first | (go_at_call 17; refine ((callsIn_wide (n := 9)).1 (ranged_in hcd3.p1.sg ry 1 (by omega) (by omega))).mono ?_; rintro e w5 ⟨rfl, hb5⟩))
        all_goals
          go_wp2
          go_ret
          exact ⟨rfl, below_from hb (hcd3.kept (Kept.ofBelow hb5) (fun _ _ f => f) (fun _ _ f => f) (fun _ f => f.elim)).kp⟩
end Go.Proofs.Ytaaoomociddopaa
