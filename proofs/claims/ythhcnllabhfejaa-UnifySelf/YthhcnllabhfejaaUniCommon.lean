/- The walks of package unify's common, Unify, Overlap and Clash. -/
import Derived.Test.YthhcnllabhfejaaUniSolve
namespace Go.Proofs.Ythhcnllabhfejaa
set_option maxRecDepth 100000
set_option linter.unusedVariables false
open Go.RowKit
attribute [local go_sem ↓] Go.wp_at_zero Go.wp_at_succ
theorem zeros_writer : Try.zeroCells79 = #[.pointer none, .slice none 0 0] ++ Array.replicate 199 (.int .i64 0) ++ #[.int .i64 0] := by kernel_rfl
theorem info_writer : (Try.prog.info? 79).map (·.size) = some 202 := by kernel_rfl
structure ZWk (Z : Array Value) : Prop where
  size : Z.size = 202
  var : ∀ v, 1 ≤ v → v < 199 → Z[2 + v]? = some (.int .i64 0)
  last : Z[201]? = some (.int .i64 0)
  one : Z.all (·.oneCell') = true
theorem zeros_one : Try.zeroCells79.all (·.oneCell') = true := by kernel_rfl
theorem zwk_writer : ZWk Try.zeroCells79 := by
  refine ⟨by rw [zeros_writer]; simp, fun v h1 h2 => ?_, ?_, zeros_one⟩ <;> rw [zeros_writer]
  · rw [Array.getElem?_append_left (by simp; omega), Array.getElem?_append_right (by simp), Array.getElem?_eq_getElem (by simp; omega)]
    simp
  · rw [Array.getElem?_append_right (by simp)]; simp
def WZ (Z : Array Value) (p v : Value) : Array Value := (Z.setIfInBounds 0 p).setIfInBounds 1 v
theorem wz_one {Z : Array Value} (hZ : ZWk Z) (p : Option Addr) (v : Option Addr) (n c : Nat) : (WZ Z (.pointer p) (.slice v n c)).all (·.oneCell') = true := by
  rw [Array.all_eq_true]
  intro i hi
  have hs := hZ.size
  simp only [WZ, Array.size_setIfInBounds] at hi
  have h1 := Array.all_eq_true.1 hZ.one i hi
  have e : (WZ Z (.pointer p) (.slice v n c))[i]? = some (if i = 1 then .slice v n c else if i = 0 then .pointer p else Z[i]) := by
    simp only [WZ]
    rw [Array.getElem?_setIfInBounds]
    by_cases e1 : i = 1
    · subst e1; rw [if_pos rfl, if_pos (by simp; omega), if_pos rfl]
    · rw [if_neg (fun f => e1 f.symm), Array.getElem?_setIfInBounds, if_neg e1]
      by_cases e0 : i = 0
      · subst e0; rw [if_pos rfl, if_pos (by omega), if_pos rfl]
      · rw [if_neg (fun f => e0 f.symm), if_neg e0, Array.getElem?_eq_getElem hi]
  rw [Array.getElem?_eq_getElem (by simpa [WZ] using hi)] at e
  simp only [Option.some.injEq] at e
  rw [e]
  split
  · rfl
  · split
    · rfl
    · exact h1
theorem run_store_writer {w : World} {g : Nat} {old cs : Array Value} (hg : w.heap[g]? = some (.cells old 79 (0, 0))) (ho : old.size = 202) (h : cs.size = 202) (h1 : cs.all (·.oneCell') = true) : (storeVar 79 ⟨g, 0, none⟩ (.agg cs)).run Try.prog w = .ok () (w.setRow g cs) :=
  run_storeVar_row w g _ _ old cs hg (by rw [h]; exact info_writer) (by omega) h1
theorem run_storeCells_writer {w : World} {g : Nat} {old cs : Array Value} (hg : w.heap[g]? = some (.cells old 79 (0, 0))) (ho : old.size = 202) (h : cs.size = 202) (h1 : cs.all (·.oneCell') = true) : (storeCells ⟨g, 0, none⟩ cs.toList 0).run Try.prog w = .ok () (w.setRow g cs) := by
  have := run_store_writer hg ho h h1
  have hi := info_writer
  cases hq : Try.prog.info? 79 with
  | none => simp [hq] at hi
  | some i =>
    have hs : cs.size = i.size := by simp [hq] at hi; omega
    simpa [storeVar, sizeOf, typeInfo, hq, Value.cells, hs] using this
theorem wz_head {Z : Array Value} (hZ : ZWk Z) {w : World} {wb jb tb cap : Nat} (hb : w.heap[wb]? = some (.cells (WZ Z (.pointer (some ⟨jb, 0, none⟩)) (.slice (some ⟨tb, 0, none⟩) 0 cap)) 79 (0, 0))) : WH w wb jb (.slice (some ⟨tb, 0, none⟩) 0 cap) (nmO []) 0 := by
  have hs := hZ.size
  refine ⟨_, hb, by simp [WZ, hs], ?_, ?_, ?_, ?_⟩ <;> simp only [WZ]
  · rw [Array.getElem?_setIfInBounds, if_neg (by omega), Array.getElem?_setIfInBounds, if_pos rfl, if_pos (by omega)]
  · rw [Array.getElem?_setIfInBounds, if_pos rfl, if_pos (by simp; omega)]
  · intro u h1 h2
    rw [Array.getElem?_setIfInBounds, if_neg (by omega), Array.getElem?_setIfInBounds, if_neg (by omega), hZ.var u h1 h2]
    simp [nmO]
  · rw [Array.getElem?_setIfInBounds, if_neg (by omega), Array.getElem?_setIfInBounds, if_neg (by omega)]; exact hZ.last
def ComPost (L : List Sym) (a b : List Int) (ap : Nat) (w : World) (e : Ending) (w' : World) : Prop := ∃ v, e = .returned (.tuple #[v, .int .i64 (comE L a b ap)]) ∧ Row w.heap.size w' v (comT L a b ap) ∧ Same0 w w'
set_option maxHeartbeats 4000000 in
theorem common_any {b : Nat} {w : World} {L : List Sym} (h : Sg w.heap.size w b L) {xo yo : Option Addr} {xc yc : Nat} {x y : List Int} (hx : IntsAt w xo x) (hy : IntsAt w yo y) (hxm : x.length ≤ maxLen) (hym : y.length ≤ maxLen) {ap : Nat} (hap : ap ≤ 99) :
    Calls Try.prog 24 #[.pointer (some ⟨b, 0, none⟩), .slice xo x.length xc, .slice yo y.length yc, .int .i64 (ap : Int)] w (ComPost L x y ap w) := by
  have cS := solve_any (xc := xc) (yc := yc) h hx hy hxm hym hap
  have bad : comE L x y ap ≠ 0 → Hid (∀ w', Same0 w w' → ComPost L x y ap w (.returned (.tuple #[.slice none 0 0, .int .i64 (comE L x y ap)])) w') := fun hne w' hk => ⟨_, rfl, by unfold comT; rw [if_neg hne]; exact World.ownsRow_nil _ _ _ _, hk⟩
  by_cases hz : checkE L x = 0
  · by_cases hq : checkE L y = 0
    · cases hs : solF L (jl x y ap) x.length with
      | none =>
        have e1 : comE L x y ap = 60 := by simp [comE, hz, hq, hs]
        have HX := bad (by rw [e1]; omega)
        rw [e1] at HX
        have cS2 : Calls Try.prog 27 #[.pointer (some ⟨b, 0, none⟩), .slice xo x.length xc, .slice yo y.length yc, .int .i64 (ap : Int)] w fun e w' => e = .returned (.tuple #[.pointer none, .int .i64 0, .int .i64 60]) ∧ Same0 w w' := cS.mono (fun e w' g => ⟨g.2.2.2.1 hz hq hs, g.1⟩)
        clear cS hz hq hs bad e1 hx hy h
        go_enter Try.func24, Try.ntmps24
        go_wp2_with (first | (go_at_call 27; refine cS2.mono ?_; rintro e w1 ⟨rfl, hk1⟩))
        go_ret2
        exact HX.out _ hk1
      | some v =>
        obtain ⟨ld, k⟩ := v
        have cS2 := cS.mono (fun e w' g => (⟨g.2.2.2.2 hz hq ld k hs, g.1⟩ : (∃ B sz', e = .returned (.tuple #[.pointer (some ⟨B.jb, 0, none⟩), .int .i64 k, .int .i64 0]) ∧ JAt L B w' (jl x y ap) ld sz' ∧ LdOk (jl x y ap) ld ∧ (∀ f, B.Foot f → w.heap.size ≤ f ∧ f < w'.heap.size) ∧ ∃ u, Val L (jl x y ap) ld 0 u ∧ k = min (u.length : Int) 2001) ∧ Same0 w w'))
        by_cases hk : 2000 < k
        · have e1 : comE L x y ap = 20 := by simp [comE, hz, hq, hs, hk]
          have HX := bad (by rw [e1]; omega)
          rw [e1] at HX
          clear cS hz hq hs bad e1 hx hy h
          go_enter Try.func24, Try.ntmps24
          go_wp2_with (first | (go_at_call 27; refine cS2.mono ?_; rintro e w1 ⟨⟨B, sz', rfl, -⟩, hk1⟩))
          go_ret2
          exact HX.out _ hk1
        · have e1 : comE L x y ap = 0 := by simp [comE, hz, hq, hs, hk]
          have e2 : comT L x y ap = wrF [] ((tmF L (jl x y ap) ld 2000 0).getD []) := by unfold comT; rw [if_pos e1, hs]
          obtain ⟨x1, x2, x3⟩ := checkE_zero.1 hz
          obtain ⟨y1, y2, y3⟩ := checkE_zero.1 hq
          have hT := trs_jl (apart := (ap : Int)) (by omega) x3 y3
          obtain ⟨J, hJ⟩ : ∃ J, jl x y ap = J := ⟨_, rfl⟩
          have hJl : J.length = x.length + y.length := by rw [← hJ]; simp [jl]
          have p1 := isT_pos x3
          have hv := jl_vars hz hq hap
          rw [hJ] at hT cS2 hs hv e2
          obtain ⟨-, hld, u, hu, hku⟩ := (sol_any hT hv (m := x.length) (by omega) (by have := isT_pos y3; omega)).val hs
          obtain ⟨n, hn⟩ : ∃ n, u.length = n := ⟨_, rfl⟩
          have hkn : k = (n : Int) := by rw [hku]; omega
          subst hkn
          have hn2 : n ≤ 2000 := by omega
          have e3 : comT L x y ap = wrF [] u := by rw [e2, hu.tm (n := 2000) (by omega)]; rfl
          have cS3 : Calls Try.prog 27 #[.pointer (some ⟨b, 0, none⟩), .slice xo x.length xc, .slice yo y.length yc, .int .i64 (ap : Int)] w fun e w' => (∃ B sz', e = .returned (.tuple #[.pointer (some ⟨B.jb, 0, none⟩), .int .i64 (n : Int), .int .i64 0]) ∧ JAt L B w' J ld sz' ∧ (∀ f, B.Foot f → w.heap.size ≤ f ∧ f < w'.heap.size)) ∧ Same0 w w' := cS2.mono (fun e w' ⟨⟨B, sz', a1, a2, a3, a4, _⟩, a5⟩ => ⟨⟨B, sz', a1, a2, a4⟩, a5⟩)
          obtain ⟨Z, hz'⟩ : ∃ Z, Try.zeroCells79 = Z := ⟨_, rfl⟩
          have hZ : ZWk Z := hz' ▸ zwk_writer
          have hzs : Z.size = 202 := hZ.size
          have hzn : ¬ Z = #[] := fun e => by rw [e] at hzs; simp at hzs
          have hmk : ∀ w : World, (Instr.makeSlice 25 (.int .i64 0) (.int .i64 (n : Int))).run Try.prog w = .ok (.slice (some ⟨w.heap.size, 0, none⟩) 0 n) (w.alloc (.cells (madeCells #[.int .i64 0] n) 3)) := fun w => by
            obtain ⟨i0, hi0, hz0, hz1, hz2⟩ := info_parts info_intS
            have := run_make w 25 3 i0 _ Try.underlying25 hi0 hz0 .i64 .i64 0 (n : Int) (by omega) (by omega) (by rw [hz2]; omega) (by omega)
            simpa [hz1, Value.cells] using this
          obtain ⟨d, hd⟩ := hu
          have FIN : Hid (∀ (B : JB) (sz' : Nat → Int) (w1 : World), JAt L B w1 J ld sz' → (∀ f, B.Foot f → w.heap.size ≤ f ∧ f < w1.heap.size) → Same0 w w1 → Calls Try.prog 36 #[.pointer (some ⟨w1.heap.size + 1, 0, none⟩), .int .i64 0] (((w1.alloc (.cells (madeCells #[.int .i64 0] n) 3)).alloc (.cells Z 79)).setRow (w1.heap.size + 1) (WZ Z (.pointer (some ⟨B.jb, 0, none⟩)) (.slice (some ⟨w1.heap.size, 0, none⟩) 0 n))) fun e w' => (∃ z, e = .returned z) ∧ w'.cell? ⟨w1.heap.size + 1, 1, none⟩ = some (.slice (some ⟨w1.heap.size, 0, none⟩) (wrF [] u).length n) ∧ w1.heap.size + 1 < w'.heap.size ∧ Row w.heap.size w' (.slice (some ⟨w1.heap.size, 0, none⟩) (wrF [] u).length n) (wrF [] u) ∧ Same0 w w') := by
            intro B sz' w1 hj hf hk
            obtain ⟨w2, e2⟩ : ∃ w2, w2 = w1.alloc (.cells (madeCells #[.int .i64 0] n) 3) := ⟨_, rfl⟩
            obtain ⟨w3, e3⟩ : ∃ w3, w3 = w2.alloc (.cells Z 79) := ⟨_, rfl⟩
            obtain ⟨w4, e4⟩ : ∃ w4, w4 = w3.setRow (w1.heap.size + 1) (WZ Z (.pointer (some ⟨B.jb, 0, none⟩)) (.slice (some ⟨w1.heap.size, 0, none⟩) 0 n)) := ⟨_, rfl⟩
            rw [← e2, ← e3, ← e4]
            have z2 : w2.heap.size = w1.heap.size + 1 := by rw [e2, World.size_alloc]
            have k2 : Same0 w1 w2 := by rw [e2]; exact (Kept.refl _ w1).alloc _
            have k3 : Same0 w2 w3 := by rw [e3]; exact (Kept.refl _ w2).alloc _
            have k4 : Kept (fun k => k = w1.heap.size + 1) w3 w4 := by
              rw [e4]
              exact ⟨rfl, rfl, rfl, by simp [World.setRow], fun k _ hn => by simp only [World.setRow, Array.getElem?_modify]; rw [if_neg (fun e => hn e.symm)]⟩
            have b3 : w3.heap[w1.heap.size + 1]? = some (.cells Z 79 (0, 0)) := by rw [e3, ← z2]; exact heap_alloc_new _ _
            have b4 : w4.heap[w1.heap.size + 1]? = some (.cells (WZ Z (.pointer (some ⟨B.jb, 0, none⟩)) (.slice (some ⟨w1.heap.size, 0, none⟩) 0 n)) 79 (0, 0)) := by
              rw [e4]; simp [World.setRow, Array.getElem?_modify, b3]
            have b2 : w4.heap[w1.heap.size]? = some (.cells (madeCells #[.int .i64 0] n) 3 (0, 0)) := k4.at (k3.at0 (by rw [e2]; exact heap_alloc_new _ _)) (by omega)
            have kk : Same0 w1 w4 := (k2.trans' k3).trans k4 (fun i hi e => by omega)
            have hj4 := hj.kept kk (fun _ _ f => f)
            have hW : WC w.heap.size w4 (w1.heap.size + 1) B.jb w1.heap.size n [] [] := ⟨wz_head hZ b4, ⟨rfl, .inr ⟨w1.heap.size, n, _, rfl, hk.size, b2, Nat.zero_le _, by unfold maxLen; omega, by rw [size_madeCells]; omega, rfl⟩⟩, by omega, by simp, by omega⟩
            refine (write_any hT hld (by omega) (fun f => by have := hf _ f; omega) (fun f => by have := hf _ f; omega) d w4 0 u [] [] hj4 (part_nat (p := 0) (by omega)) hd hW (by simp; omega)).mono ?_
            rintro e w5 ⟨a1, a2, a3, a4⟩
            rw [List.nil_append] at a3
            refine ⟨a1, a3.head.cells.2.1, a3.head.cells.2.2.2.2.2, a3.row, (hk.trans' kk).trans a4 (fun i hi f => ?_)⟩
            rcases f with f | f | f
            · have := hf i (JB.way_foot f); omega
            · have := hk.size; omega
            · have := hk.size; omega
          have HE : Hid (comE L x y ap = 0 ∧ comT L x y ap = wrF [] u) := ⟨e1, e3⟩
          clear cS cS2 hz hq hs bad hx hy h e1 e2 e3 hv hT hld hd hku hn hJ hk
          go_enter Try.func24, Try.ntmps24
          have hn2i : (n : Int) ≤ 2000 := by omega
          go_upto_region 6 with (first | (go_at_call 27; refine cS3.mono ?_; rintro e w1 ⟨⟨B, sz', rfl, hj1, hf1⟩, hk1⟩))
          have hst := run_storeCells_writer (w := (w1.alloc (.cells (madeCells #[.int .i64 0] n) 3)).alloc (.cells Z 79)) (g := w1.heap.size + 1) (old := Z) (cs := WZ Z (.pointer (some ⟨B.jb, 0, none⟩)) (.slice (some ⟨w1.heap.size, 0, none⟩) 0 n)) (by have := heap_alloc_new (w1.alloc (.cells (madeCells #[.int .i64 0] n) 3)) (.cells Z 79); rwa [World.size_alloc] at this) hzs (by simp [WZ, hzs]) (wz_one hZ _ _ _ _)
          have cW := FIN.out B sz' w1 hj1 hf1 hk1
          simp only [WZ, Array.toList_setIfInBounds] at hst
          simp only [WZ] at cW
          clear hj1 hf1 FIN cS3
          go_wp2_with (first | (go_at_call 36; refine cW.mono ?_; rintro e w5 ⟨⟨rr, rfl⟩, g1, g2, g3, g4⟩))
          go_ret2
          exact ⟨_, by rw [HE.out.1]; rfl, by rw [HE.out.2]; exact g3, g4⟩
    · have e1 : comE L x y ap = checkE L y := by simp [comE, hz, hq]
      have HX := bad (by rw [e1]; exact hq)
      rw [e1] at HX
      have cS2 : Calls Try.prog 27 #[.pointer (some ⟨b, 0, none⟩), .slice xo x.length xc, .slice yo y.length yc, .int .i64 (ap : Int)] w fun e w' => e = .returned (.tuple #[.pointer none, .int .i64 0, .int .i64 (checkE L y)]) ∧ Same0 w w' := cS.mono (fun e w' g => ⟨g.2.2.1 hz hq, g.1⟩)
      have hq' : (checkE L y == 0) = false := by simpa using hq
      clear cS hz hq bad e1 hx hy h
      go_enter Try.func24, Try.ntmps24
      go_wp2_with (first | (go_at_call 27; refine cS2.mono ?_; rintro e w1 ⟨rfl, hk1⟩))
      go_ret2
      exact HX.out _ hk1
  · have e1 : comE L x y ap = checkE L x := by simp [comE, hz]
    have HX := bad (by rw [e1]; exact hz)
    rw [e1] at HX
    have cS2 : Calls Try.prog 27 #[.pointer (some ⟨b, 0, none⟩), .slice xo x.length xc, .slice yo y.length yc, .int .i64 (ap : Int)] w fun e w' => e = .returned (.tuple #[.pointer none, .int .i64 0, .int .i64 (checkE L x)]) ∧ Same0 w w' := cS.mono (fun e w' g => ⟨g.2.1 hz, g.1⟩)
    have hz' : (checkE L x == 0) = false := by simpa using hz
    clear cS hz bad e1 hx hy h
    go_enter Try.func24, Try.ntmps24
    go_wp2_with (first | (go_at_call 27; refine cS2.mono ?_; rintro e w1 ⟨rfl, hk1⟩))
    go_ret2
    exact HX.out _ hk1
end Go.Proofs.Ythhcnllabhfejaa
