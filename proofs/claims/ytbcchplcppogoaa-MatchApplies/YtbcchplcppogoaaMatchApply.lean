/- The walk of Apply of package match. -/
import Derived.Test.YtbcchplcppogoaaMatchTable
namespace Go.Proofs.Ytbcchplcppogoaa
set_option maxRecDepth 100000
set_option linter.unusedVariables false
open Go.RowKit
attribute [local go_sem ↓] Go.wp_at_zero Go.wp_at_succ
def applyE (L : List Sym) (t : List Int) (bs : List Bd) : Int := if checkE L t ≠ 0 then checkE L t else match tabF L bs noT with | .error x => x | .ok σ => if 2000 < (appT σ t).length then 20 else 0
def applyA (L : List Sym) (t : List Int) (bs : List Bd) : List Int := if applyE L t bs = 0 then (match tabF L bs noT with | .ok σ => appT σ t | .error _ => []) else []
theorem tab_err_ne {L : List Sym} {bs : List Bd} {σ : Tb} {x : Int} (h : tabF L bs σ = .error x) : x ≠ 0 := by
  induction bs generalizing σ with
  | nil => simp [tabF] at h
  | cons b r ih =>
    rw [tabF] at h
    split at h
    · cases h; decide
    · split at h
      · cases h; assumption
      · exact ih h
theorem apply_check {L : List Sym} {t : List Int} {bs : List Bd} (h : checkE L t ≠ 0) : applyE L t bs = checkE L t ∧ applyA L t bs = [] := by
  have e : applyE L t bs = checkE L t := by rw [applyE, if_pos h]
  exact ⟨e, by rw [applyA, e, if_neg h]⟩
theorem apply_err {L : List Sym} {t : List Int} {bs : List Bd} {x : Int} (h : checkE L t = 0) (h2 : tabF L bs noT = .error x) : applyE L t bs = x ∧ applyA L t bs = [] := by
  have e : applyE L t bs = x := by rw [applyE, if_neg (by rw [h]; simp), h2]
  exact ⟨e, by rw [applyA, e, if_neg (tab_err_ne h2)]⟩
theorem apply_long {L : List Sym} {t : List Int} {bs : List Bd} {σ : Tb} (h : checkE L t = 0) (h2 : tabF L bs noT = .ok σ) (h3 : 2000 < (appT σ t).length) : applyE L t bs = 20 ∧ applyA L t bs = [] := by
  have e : applyE L t bs = 20 := by rw [applyE, if_neg (by rw [h]; simp), h2]; simp [h3]
  exact ⟨e, by rw [applyA, e, if_neg (by decide)]⟩
theorem apply_ok {L : List Sym} {t : List Int} {bs : List Bd} {σ : Tb} (h : checkE L t = 0) (h2 : tabF L bs noT = .ok σ) (h3 : ¬ 2000 < (appT σ t).length) : applyE L t bs = 0 ∧ applyA L t bs = appT σ t := by
  have e : applyE L t bs = 0 := by rw [applyE, if_neg (by rw [h]; simp), h2]; simp [h3]
  exact ⟨e, by rw [applyA, e, if_pos rfl, h2]⟩
theorem app_prefix (σ : Tb) (t : List Int) (k : Nat) : (appT σ (t.take k)).length ≤ (appT σ t).length := by
  have : appT σ t = appT σ (t.take k) ++ appT σ (t.drop k) := by rw [← app_append, List.take_append_drop]
  rw [this, List.length_append]; omega
theorem inst_none {σ : Tb} {n : Int} (h : partL σ n = []) : inst σ n = [n] := by
  unfold partL at h
  unfold inst
  by_cases h0 : 0 ≤ n
  · simp [h0]
  · rw [if_neg h0] at h; simp [h]
theorem inst_some {σ : Tb} {n : Int} (h : partL σ n ≠ []) : inst σ n = partL σ n := by
  unfold partL at h ⊢
  unfold inst
  by_cases h0 : 0 ≤ n
  · rw [if_pos h0] at h; exact absurd rfl h
  · rw [if_neg h0] at h ⊢; simp [h0, h]
set_option maxHeartbeats 4000000 in
theorem apply_any {n b : Nat} {w : World} {L : List Sym} (h : Sg n w b L) {ao lo : Option Addr} {cap lcap : Nat} {t : List Int} {bs : List Bd} (ht : IntsAt w ao t) (hm : t.length ≤ maxLen) (hl : BindsAt w lo bs) (hlm : bs.length ≤ maxLen) (hbm : ∀ x ∈ bs, x.2.length ≤ maxLen) :
    Calls Try.prog 19 #[.pointer (some ⟨b, 0, none⟩), .slice ao t.length cap, .slice lo bs.length lcap] w fun e w' => ∃ v, e = .returned (.tuple #[v, .int .i64 (applyE L t bs)]) ∧ Row w.heap.size w' v (applyA L t bs) ∧ Same0 w w' := by
  have cp := check_any (cap := cap) h ht hm
  have hnil := neqnil
  by_cases hz : checkE L t = 0
  · obtain ⟨t1, t2, t3⟩ := checkE_zero.1 hz
    have tv : ∀ x ∈ t, -99 ≤ x := fun x hx => ((badE_zero.1 t2) x hx).2
    rw [hz] at cp
    obtain ⟨Z, hZ⟩ : ∃ Z : Array Value, Z = Array.replicate 100 (.slice none 0 0) := ⟨_, rfl⟩
    have hzz : Try.zeroCells68 = Z := zeros_table.trans hZ.symm
    have hZs : Z.size = 100 := by rw [hZ]; simp
    have HST : Hid (∀ (w' : World) (cs : Array Value), cs.size = 100 → OneAll cs → (storeCells ⟨w'.heap.size, 0, none⟩ cs.toList 0).run Try.prog (w'.alloc (.cells Z 68)) = .ok () (w'.alloc (.cells cs 68))) := fun w' cs h1 h2 => run_storeCells_new w' _ Z cs (by rw [h1]; exact info_table) (by omega) h2
    have CT : Hid (∀ w1, Same0 w w1 → Calls Try.prog 36 #[.pointer (some ⟨b, 0, none⟩), .slice lo bs.length lcap] w1 fun e w' => ∃ cs c, e = .returned (.tuple #[.agg cs, .int .i64 c]) ∧ cs.size = 100 ∧ OneAll cs ∧ Same0 w1 w' ∧ (∀ σ, tabF L bs noT = .ok σ → c = 0 ∧ TabV w1.heap.size w' cs σ ∧ Bnd σ) ∧ (∀ x, tabF L bs noT = .error x → c = x)) := fun w1 hk => tableOf_any (lcap := lcap) (h.same hk) (hl.same hk) hlm hbm
    clear hZ
    cases hT : tabF L bs noT with
    | error x =>
      have HX : Hid (applyE L t bs = x ∧ applyA L t bs = []) := apply_err hz hT
      have hx0 : (x == 0) = false := by simpa using tab_err_ne hT
      rw [hT] at CT
      clear hT hz
      go_enter Try.func19, Try.ntmps19
      go_wp2_with (first | (go_at_call 31; refine cp.mono ?_; rintro e w1 ⟨rfl, hk1⟩) | (go_at_call 36; refine (CT.out _ hk1).mono ?_; rintro e w2 ⟨cs, c, rfl, hcs, hone, hk2, -, hc⟩; obtain rfl := hc x rfl; clear hc; have hst := HST.out w2 cs hcs hone))
      go_ret2
      refine ⟨.slice none 0 0, by rw [HX.out.1]; rfl, ?_, (hk1.trans' hk2).alloc _⟩
      rw [HX.out.2]; exact World.ownsRow_nil _ _ _ _
    | ok σ =>
      rw [hT] at CT
      have CS : Hid (∀ (w2 : World) (cs : Array Value) (N : Nat), Same0 w w2 → TabV N w2 cs σ → Bnd σ → Calls Try.prog 37 #[.pointer (some ⟨w2.heap.size, 0, none⟩), .slice ao t.length cap] (w2.alloc (.cells cs 68)) fun e w' => e = .returned (.int .i64 ((appT σ t).length : Int)) ∧ w' = w2.alloc (.cells cs 68)) := fun w2 cs N hk2 ht2 hb2 => by
        have k4 : Same0 w2 (w2.alloc (.cells cs 68)) := (Kept.refl _ w2).alloc _
        exact size_any (N := N) (cap := cap) ⟨cs, heap_alloc_new w2 _, ht2.same k4⟩ hb2 (ht.same (hk2.trans' k4)) t1 tv
      by_cases hlong : 2000 < (appT σ t).length
      · have HX : Hid (applyE L t bs = 20 ∧ applyA L t bs = []) := apply_long hz hT hlong
        have hl2 : (2000 : Int) < ((appT σ t).length : Int) := by omega
        clear hT hz
        go_enter Try.func19, Try.ntmps19
        go_wp2_with (first | (go_at_call 31; refine cp.mono ?_; rintro e w1 ⟨rfl, hk1⟩) | (go_at_call 36; refine (CT.out _ hk1).mono ?_; rintro e w2 ⟨cs, c, rfl, hcs, hone, hk2, hc, -⟩; obtain ⟨rfl, htb, hbn⟩ := hc σ rfl; clear hc; have hst := HST.out w2 cs hcs hone; have csz := CS.out w2 cs _ (hk1.trans' hk2) htb hbn) | (go_at_call 37; refine csz.mono ?_; rintro e w3 ⟨rfl, rfl⟩))
        go_ret2
        refine ⟨.slice none 0 0, by rw [HX.out.1]; rfl, ?_, (hk1.trans' hk2).alloc _⟩
        rw [HX.out.2]; exact World.ownsRow_nil _ _ _ _
      · have HX : Hid (applyE L t bs = 0 ∧ applyA L t bs = appT σ t) := apply_ok hz hT hlong
        have hl2 : ¬ (2000 : Int) < ((appT σ t).length : Int) := by omega
        have HL : Hid ((appT σ t).length ≤ 2000) := by show _ ≤ _; omega
        obtain ⟨i, hi, hz0, hz1, hz2⟩ := info_parts info_intT
        obtain ⟨M, hM⟩ : ∃ M, M = (appT σ t).length := ⟨_, rfl⟩
        have hM2 : M ≤ 2000 := by omega
        rw [← hM] at hl2 CS
        have HM : Hid (M = (appT σ t).length) := hM
        have hl3 : decide ((2000 : Int) < (M : Int)) = false := by simp; omega
        clear hT hz hM hlong
        go_enter Try.func19, Try.ntmps19
        go_wp2_with (first | (go_at_call 31; refine cp.mono ?_; rintro e w1 ⟨rfl, hk1⟩) | (go_at_call 36; refine (CT.out _ hk1).mono ?_; rintro e w2 ⟨cs, c, rfl, hcs, hone, hk2, hc, -⟩; obtain ⟨rfl, htb, hbn⟩ := hc σ rfl; clear hc; have hst := HST.out w2 cs hcs hone; have csz := CS.out w2 cs _ (hk1.trans' hk2) htb hbn) | (go_at_call 37; refine csz.mono ?_; rintro e w3 ⟨rfl, rfl⟩) | (at_make; refine wpList_make_own _ rfl _ _ 25 rfl (w2.alloc (.cells cs 68)).heap.size 3 i _ 1 Try.underlying25 hi hz0 hz1 _ _ _ M rfl rfl (by omega) (by rw [hz2]; omega) (by unfold maxLen; omega) (Nat.le_refl _) ?_; intro w4 hown hgrow))
        have K3 : Same0 w (w2.alloc (.cells cs 68)) := (hk1.trans' hk2).alloc _
        have T3 : TabAt w1.heap.size (w2.alloc (.cells cs 68)) w2.heap.size σ := ⟨cs, heap_alloc_new w2 _, htb.same ((Kept.refl _ w2).alloc _)⟩
        have K4 := Same0.grown (Kept.refl _ _) hgrow
        have ez : (w2.alloc (.cells cs 68)).heap.size = w2.heap.size + 1 := World.size_alloc _ _
        obtain ⟨W3, hW3⟩ : ∃ W3, W3 = w2.alloc (.cells cs 68) := ⟨_, rfl⟩
        rw [← hW3] at K3 T3 K4 hown ez
        have hown' : Row W3.heap.size w4 (.slice (some ⟨w2.heap.size + 1, 0, none⟩) 0 M) [] := by rw [← ez]; exact hown
        have TV : Hid (∀ x ∈ t, -99 ≤ x) := tv
        have HBN : Hid (Bnd σ) := hbn
        clear hgrow hown htb hst csz CS CT HST hW3 ez cp tv hbn hk1 hk2 hone
        go_loopw [12, 39] (fun uv iv wr => ∃ k : Nat, k ≤ t.length ∧ iv = .int .i64 (k : Int) ∧ Row W3.heap.size wr uv (appT σ (t.take k)) ∧ Same0 W3 wr) (fun _ iv _ => t.length - (intOf iv).toNat)
        case atStart => exact ⟨0, Nat.zero_le _, rfl, hown', K4⟩
        case round =>
          clear hown' K4
          obtain ⟨k, hk, rfl, hr, hs⟩ := hrel
          obtain ⟨uo, uc, rfl⟩ := row_shape hr
          by_cases hlt : k < t.length
          · obtain ⟨tb, off, rfl, htb, hc⟩ := (ht.same (K3.trans' hs)).get hlt
            have i1 : (0 : Int) ≤ (k : Int) := by omega
            have i2 : (k : Int) < (t.length : Int) := by omega
            have c := part_any (T3.same hs) t[k] (TV.out _ (List.getElem_mem hlt))
            have hpl := part_len HBN.out t[k]
            have hle : (appT σ (t.take k)).length ≤ 2000 := Nat.le_trans (app_prefix σ t k) HL.out
            have hs0 := hs.size
            by_cases hp : partL σ t[k] = []
            · have E1 : Hid (appT σ (t.take (k + 1)) = appT σ (t.take k) ++ [t[k]]) := by show _ = _; rw [app_take hlt, inst_none hp]
              have cc : Calls Try.prog 38 #[.pointer (some ⟨w2.heap.size, 0, none⟩), .int .i64 t[k]] wr fun e w' => e = .returned (.slice none 0 0) ∧ w' = wr := by
                refine c.mono ?_
                rintro e w' ⟨xo, xc, rfl, _, _, x3, rfl⟩
                obtain ⟨rfl, rfl⟩ := x3 hp
                exact ⟨by rw [hp]; rfl, rfl⟩
              clear c hp
              generalize appT σ (t.take k) = X at *
              go_wp2_with (first | (go_at_call 38; refine cc.mono ?_; rintro e w' ⟨rfl, rfl⟩) | (at_builtin; refine wpList_push rfl _ _ 25 rfl Try.underlying25 W3.heap.size X _ rfl hr t[k] rfl hs0 (by omega) ?_; intro g gcap w5 hr5 hk5 _; have hs5 := hs.onto hr hk5))
              rw [← E1.out] at hr5
              go_roundw
              case rel => first | exact ⟨k + 1, by omega, by go_num, hr5, hs5⟩ | ((repeat apply Exists.intro); exact ⟨⟨k + 1, by omega, by go_num, hr5, hs5⟩, rfl⟩)
              case measure => simp [intOf]; omega
            · have E1 : Hid (appT σ (t.take (k + 1)) = appT σ (t.take k) ++ partL σ t[k]) := by show _ = _; rw [app_take hlt, inst_some hp]
              have cc : Calls Try.prog 38 #[.pointer (some ⟨w2.heap.size, 0, none⟩), .int .i64 t[k]] wr fun e w' => ∃ pb po pc, e = .returned (.slice (some ⟨pb, po, none⟩) (partL σ t[k]).length pc) ∧ IntsAt wr (some ⟨pb, po, none⟩) (partL σ t[k]) ∧ w' = wr := by
                refine c.mono ?_
                rintro e w' ⟨xo, xc, rfl, x1, _, _, rfl⟩
                obtain ⟨pb, po, rfl, _, _⟩ := x1.get (i := 0) (List.length_pos_iff.2 hp)
                exact ⟨pb, po, xc, rfl, x1, rfl⟩
              clear c hp
              generalize appT σ (t.take k) = X at *
              generalize partL σ t[k] = Y at *
              go_wp2_with (first | (go_at_call 38; refine cc.mono ?_; rintro e w' ⟨pb, po, pc, rfl, hy, rfl⟩) | (at_builtin; refine wpList_more rfl _ _ 25 rfl Try.underlying25 W3.heap.size X _ rfl hr Y _ _ _ rfl rfl hy hs0 (by omega) ?_; intro v5 w5 hr5 hk5; have hs5 := hs.onto hr hk5))
              rw [← E1.out] at hr5
              obtain ⟨vo, vc, rfl⟩ := row_shape hr5
              go_roundw
              case rel => first | exact ⟨k + 1, by omega, by go_num, hr5, hs5⟩ | ((repeat apply Exists.intro); exact ⟨⟨k + 1, by omega, by go_num, hr5, hs5⟩, rfl⟩)
              case measure => simp [intOf]; omega
          · have E1 : Hid (appT σ t = appT σ (t.take k)) := by show _ = _; rw [List.take_of_length_le (by omega)]
            have hr2 := row_mono hr K3.size
            clear hr
            go_wp2
            go_ret2
            refine ⟨_, by rw [HX.out.1]; rfl, ?_, K3.trans' hs⟩
            rw [HX.out.2, E1.out]; exact hr2
  · have hz' : (checkE L t == 0) = false := by simpa using hz
    have HX : Hid (applyE L t bs = checkE L t ∧ applyA L t bs = []) := apply_check hz
    go_enter Try.func19, Try.ntmps19
    go_wp2_with (first | (go_at_call 31; refine cp.mono ?_; rintro e w1 ⟨rfl, hk1⟩))
    go_ret2
    refine ⟨.slice none 0 0, by rw [HX.out.1]; rfl, ?_, hk1⟩
    rw [HX.out.2]; exact World.ownsRow_nil _ _ _ _
end Go.Proofs.Ytbcchplcppogoaa
