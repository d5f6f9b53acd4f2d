import Derived.Test.YthamjjhioafkjaaGreatGCodeViews34
import Derived.Test.YthamjjhioafkjaaGreatGCodeViews07
import Derived.Test.YthamjjhioafkjaaGreatGCodeViews04
namespace Go.Proofs.YthamjjhioafkjaaGreat
set_option maxRecDepth 100000
set_option linter.unusedVariables false
open Go.RowKit
attribute [local go_sem ↓] Go.wp_at_zero Go.wp_at_succ
theorem AIn.more {L : List Sym} {T : List Int} {wp wr w1 : World} {gA gE p j gg cap : Nat} {en : Nat → Int} {f : Nat → Value} {vo : Option Addr} {vc : Nat} (hT : IsT L T) (hp : p < T.length) (hj : j < arN L T[p]) (hg : gA ≠ gE) (hlA : gA < wp.heap.size) (hlE : gE < wp.heap.size) (h6 : ∀ q,p + 1 ≤ q → q < T.length → en q = (endN L T q : Int))
    (h1 : Kept (fun k => k = gE ∨ k = gA) wp wr) (h2 : Nums wr gE T.length (fun q => if q = p then (past L T j (p + 1) : Int) else en q)) (h3 : Lsts wr gA T.length (fun q => if q = p then .slice vo j vc else f q)) (h4 : wr.ownsRow wp.heap.size 3 1 (.slice vo j vc) j (iv (ofN (starts L T j (p + 1)))))
    (hr : w1.ownsRow wp.heap.size 3 1 (.slice (some ⟨gg, 0, none⟩) (j + 1) cap) (j + 1) (iv (ofN (starts L T j (p + 1))) ++ [.int .i64 (past L T j (p + 1) : Int)])) (hk : Kept (fun k => (Value.slice vo j vc).ownBlock = some k) wr w1) (hat : (Value.slice vo j vc).ownBlock = some gg ∨ wr.heap.size ≤ gg) :
    (w1.cell? ⟨gA, p, none⟩ = some (.slice vo j vc) ∧ w1.frozen? ⟨gA, p, none⟩ = false) ∧
    ((w1.setCell ⟨gA, p, none⟩ (.slice (some ⟨gg, 0, none⟩) (j + 1) cap)).cell? ⟨gE, p, none⟩ = some (.int .i64 (past L T j (p + 1) : Int)) ∧ (w1.setCell ⟨gA, p, none⟩ (.slice (some ⟨gg, 0, none⟩) (j + 1) cap)).cell? ⟨gE, past L T j (p + 1), none⟩ = some (.int .i64 (endN L T (past L T j (p + 1)) : Int)) ∧ (w1.setCell ⟨gA, p, none⟩ (.slice (some ⟨gg, 0, none⟩) (j + 1) cap)).frozen? ⟨gE, p, none⟩ = false) ∧
    AIn L T wp gA gE p en f (j + 1) ((w1.setCell ⟨gA, p, none⟩ (.slice (some ⟨gg, 0, none⟩) (j + 1) cap)).setCell ⟨gE, p, none⟩ (.int .i64 (endN L T (past L T j (p + 1)) : Int))) := by
  have hf := (Forest.one hT hp).kids.2
  have hfk := hf.drop (i := j) (by omega)
  rw [show arN L T[p] - j = (arN L T[p] - j - 1) + 1 by omega] at hfk
  have hq : past L T j (p + 1) < T.length := by have := hfk.pos; have := hfk.le; omega
  have hfj := hf.drop (i := 0) (by omega)
  have hge : p + 1 ≤ past L T j (p + 1) := by
    have := (Forest.le (k := arN L T[p] - j - 1 + 1) hfk)
    rcases Nat.eq_zero_or_pos j with e | e
    · subst e; exact Nat.le_refl _
    · have h9 := past_mono hf (i := 0) (j := j) e (by omega)
      have h10 := hf
      rw [show arN L T[p] = (arN L T[p] - 1) + 1 by omega] at h10
      have := h10.succ.2.1
      simp only [past] at h9
      omega
  have hbz := h1.size
  have own : ∀ k, (Value.slice vo j vc).ownBlock = some k → wp.heap.size ≤ k := fun k e => by
    rcases h4.2 with ⟨e1, _⟩ | ⟨g, c, cur, e1, e2, _⟩
    · rw [e1] at e; simp [Value.ownBlock] at e
    · rw [e1] at e; simp only [Value.ownBlock, Option.some.injEq] at e; omega
  have nA : ¬ (Value.slice vo j vc).ownBlock = some gA := fun e => by have := own _ e; omega
  have nE : ¬ (Value.slice vo j vc).ownBlock = some gE := fun e => by have := own _ e; omega
  have gge : wp.heap.size ≤ gg := by
    rcases hat with e | e
    · exact own _ e
    · omega
  have v1 := h3.kept hk nA
  have n1 := h2.kept hk nE
  have v2 := v1.set p (.slice (some ⟨gg, 0, none⟩) (j + 1) cap)
  have k2 : Kept (fun k => k = gA) w1 (w1.setCell ⟨gA, p, none⟩ (.slice (some ⟨gg, 0, none⟩) (j + 1) cap)) := kept_at _ _ _ _
  have n2 := n1.kept k2 (fun e => hg e.symm)
  have k3 : Kept (fun k => k = gE) (w1.setCell ⟨gA, p, none⟩ (.slice (some ⟨gg, 0, none⟩) (j + 1) cap)) ((w1.setCell ⟨gA, p, none⟩ (.slice (some ⟨gg, 0, none⟩) (j + 1) cap)).setCell ⟨gE, p, none⟩ (.int .i64 (endN L T (past L T j (p + 1)) : Int))) := kept_at _ _ _ _
  have n3 := n2.set p (endN L T (past L T j (p + 1)) : Int)
  have v3 := v2.kept k3 (fun e => hg e)
  have a1 := v1.cell hp
  have a2 := n2.cell hp
  have a3 := n2.cell hq
  simp only [if_pos] at a1 a2
  rw [if_neg (by omega), h6 _ hge hq] at a3
  refine ⟨a1, ⟨a2.1, a3.1, a2.2⟩, ?_, ?_, some ⟨gg, 0, none⟩, cap, ?_, ?_⟩
  · exact Kept.trans (Kept.trans (Kept.trans h1 hk (fun i hi e => by have := own _ e; omega)) k2 (fun _ _ e => .inr e)) k3 (fun _ _ e => .inl e)
  · refine n3.congr (fun i hi => ?_)
    by_cases e : i = p
    · rw [if_pos e, if_pos e, past_succ]
    · rw [if_neg e, if_neg e, if_neg e]
  · refine v3.congr (fun i hi => ?_)
    by_cases e : i = p
    · rw [if_pos e, if_pos e]
    · rw [if_neg e, if_neg e, if_neg e]
  · have r2 := k3.row (k2.row hr (fun k e q => by simp only [Value.ownBlock, Option.some.injEq] at e; omega)) (fun k e q => by simp only [Value.ownBlock, Option.some.injEq] at e; omega)
    rw [starts_snoc]
    have : iv (ofN (starts L T j (p + 1) ++ [past L T j (p + 1)])) = iv (ofN (starts L T j (p + 1))) ++ [.int .i64 (past L T j (p + 1) : Int)] := by simp [ofN, iv]
    rw [this]
    exact r2
theorem AOut.psb {L : List Sym} {T : List Int} {w wr : World} {gA gE : Nat} (h : AOut L T w gA gE 0 wr) : PsB w.heap.size wr (some ⟨gA,0,none⟩) (argsL L T) ∧ Same0 w wr := by
  obtain ⟨h0, h1, h2, h3, en, f, h4, h5, h6, h7, h8⟩ := h
  refine ⟨.inr ⟨gA, 0, rfl, h2, h5.lt, fun i hi => ?_⟩, h0⟩
  have hi' : i < T.length := by rw [argsL_length] at hi; exact hi
  obtain ⟨ao, ac, e1, e2, e3⟩ := h8 i (Nat.zero_le _) hi'
  refine ⟨ao, ac, ?_, by rw [argsL_at]; exact e2, fun a e => (e3 a e).2.2⟩
  rw [argsL_at, ofN_len, Nat.zero_add, ← e1]
  exact (h5.cell hi').1
set_option maxHeartbeats 16000000 in
theorem argsOf_any {n b : Nat} {w : World} {L : List Sym} (h : Sg n w b L) {ao : Option Addr} {cap : Nat} {T : List Int} (ht : IntsAt w ao T) (hc : checkE L T = 0) (hv : ∀ x ∈ T,0 ≤ x) :
    Calls Tryz.prog 56 #[.pointer (some ⟨b,0,none⟩),.slice ao T.length cap] w fun e w' => ∃ go gc,e = .returned (.slice go T.length gc) ∧ PsB w.heap.size w' go (argsL L T) ∧ Same0 w w' := by
  obtain ⟨hm, hbad, hT⟩ := checkE_zero.1 hc
  have hnum : Hid (∀ p (hp : p < T.length), ∃ i : Nat, T[p] = (i : Int) ∧ i < L.length) := fun p hp => by
    have h1 := badE_zero.1 hbad T[p] (List.getElem_mem hp)
    have h2 := hv T[p] (List.getElem_mem hp)
    exact ⟨T[p].toNat, by omega, by omega⟩
  have CAT : Hid (∀ ww i (hi : i < L.length), Same0 w ww → Calls Tryz.prog 91 #[.pointer (some ⟨b, 0, none⟩), .int .i64 (i : Int)] ww fun e w' => ∃ nm df, e = .returned (.tuple #[.agg #[.string nm, .int .i64 ((arN L (i : Int) : Nat) : Int), .bool df], .int .i64 0]) ∧ Same0 ww w') := fun ww i hi hk => by
    refine (sg_at_yes (h.same hk) hi).mono ?_
    rintro e w' ⟨rfl, hk'⟩
    exact ⟨_, _, by rw [ar_of h.2 hi], hk'⟩
  have HAR := fun z => arN_le h.2 z
  obtain ⟨i1, hi1, hz0, hz1, hz2⟩ := info_parts info_intT
  obtain ⟨i2, hi2, hy0, hy1, hy2⟩ := info_parts (show (Tryz.prog.info? 23).map (fun i => (i.zero, i.size, i.bytes)) = some (some (.slice none 0 0), 1, 24) by kernel_rfl)
  obtain ⟨N, hN⟩ : ∃ N, N = T.length := ⟨_, rfl⟩
  have hmN : N ≤ 2000 := by omega
  have mA : ∀ w : World, (Instr.makeSlice 28 (.int .i64 (N : Int)) (.int .i64 (N : Int))).run Tryz.prog w = .ok (.slice (some ⟨w.heap.size, 0, none⟩) N N) (w.alloc (.cells (madeCells #[.slice none 0 0] N) 23)) := fun w => by
    have := run_make w 28 23 i2 _ Tryz.underlying28 hi2 hy0 .i64 .i64 (N : Int) (N : Int) (by omega) (by omega) (by rw [hy2]; omega) (by omega)
    simpa [hy1, Value.cells] using this
  have mE : ∀ w : World, (Instr.makeSlice 23 (.int .i64 (N : Int)) (.int .i64 (N : Int))).run Tryz.prog w = .ok (.slice (some ⟨w.heap.size, 0, none⟩) N N) (w.alloc (.cells (madeCells #[.int .i64 0] N) 3)) := fun w => by
    have := run_make w 23 3 i1 _ Tryz.underlying23 hi1 hz0 .i64 .i64 (N : Int) (N : Int) (by omega) (by omega) (by rw [hz2]; omega) (by omega)
    simpa [hz1, Value.cells] using this
  have HN : Hid (N = T.length ∧ IsT L T) := ⟨hN, hT⟩
  have START : Hid (∀ wc gA gE, Same0 w wc → gA ≠ gE → w.heap.size ≤ gA → w.heap.size ≤ gE → wc.heap[gA]? = some (.cells (madeCells #[.slice none 0 0] N) 23 (0, 0)) → wc.heap[gE]? = some (.cells (madeCells #[.int .i64 0] N) 3 (0, 0)) → AOut L T w gA gE N wc) := by
    intro wc gA gE k1 k2 k3 k4 k5 k6
    subst hN
    exact ⟨k1, k2, k3, k4, fun _ => 0, fun _ => .slice none 0 0, ⟨_, _, k6, by rw [size_madeCells]; exact Nat.le_refl _, fun i hi => umade_zero _ i hi⟩, ⟨_, k5, size_madeCells _ _, fun i hi => made_slices _ i hi⟩, fun q a b => by omega, fun q _ => rfl, fun q a b => by omega⟩
  have HT : Hid (∀ ww p (hp : p < T.length), Same0 w ww → ∃ tb off, ao = some ⟨tb, off, none⟩ ∧ ww.cell? ⟨tb, off + p, none⟩ = some (.int .i64 T[p])) := fun ww p hp hk => by
    obtain ⟨tb, off, e, _, hcc⟩ := (ht.same hk).get hp
    exact ⟨tb, off, e, hcc⟩
  rw [← hN]
  clear h ht hc hv hbad hm hT hN
  go_enter Tryz.func56, Tryz.ntmps56
  go_upto_region 1 with fail
  go_cut [5, 6] from 10 to 15 (fun s5 s6 wc => ∃ gA gE, s5 = .slice (some ⟨gA, 0, none⟩) N N ∧ s6 = .slice (some ⟨gE, 0, none⟩) N N ∧ AOut L T w gA gE N wc)
  case first =>
    go_region
    all_goals
      go_wp2_with fail
      go_meet
      case rel =>
        first
          | exact ⟨_, _, rfl, rfl, START.out _ _ _ (Kept.drew (Kept.alloc (Kept.alloc (Kept.refl _ w) _) _)) (by omega) (by omega) (by omega) (heap_alloc2_old w _ _) (heap_al_al w _ _)⟩
          | exact ⟨_, _, rfl, rfl, START.out _ _ _ (Kept.drew (Kept.alloc (Kept.alloc (Kept.refl _ w) _) _)) (by omega) (by omega) (by omega) (heap_al_al w _ _) (heap_alloc2_old w _ _)⟩
  case rest =>
    obtain ⟨gA, gE, rfl, rfl, hO⟩ := hcut
    clear START mA mE
    go_wp2_with fail
    go_loopw [7] (fun s7 wr => ∃ k : Nat, k ≤ N ∧ s7 = .int .i64 ((k : Int) - 1) ∧ AOut L T w gA gE k wr) (fun s7 _ => (intOf s7 + 1).toNat)
    case atStart => exact ⟨N, Nat.le_refl _, by go_num, hO⟩
    case round =>
      clear hO
      obtain ⟨k, hk, rfl, hO⟩ := hrel
      cases k with
      | zero =>
        obtain ⟨q1, q2⟩ := hO.psb
        clear hO
        go_wp2_with fail
        go_ret
        exact ⟨_, _, rfl, q1, q2⟩
      | succ p =>
        have hs7 : (((p + 1 : Nat) : Int) - 1) = (p : Int) := by omega
        rw [hs7]
        have hp : p < T.length := by have := HN.out.1; omega
        obtain ⟨i, hTi, hiL⟩ := hnum.out p hp
        obtain ⟨tb, off, rfl, hcell⟩ := HT.out wr p hp hO.1
        rw [hTi] at hcell
        have CA := CAT.out wr i hiL hO.1
        obtain ⟨A, hA⟩ : ∃ A, arN L (i : Int) = A := ⟨_, rfl⟩
        have HA : Hid (arN L T[p] = A) := by show _ = _; rw [hTi]; exact hA
        have hA6 : A ≤ 6 := by rw [← hA]; exact HAR _
        rw [hA] at CA
        have j1 : (0 : Int) ≤ (p : Int) := by omega
        have j2 : (p : Int) < (N : Int) := by omega
        have j3 : (p : Int) < 2000 := by omega
        have HO : Hid (∀ ww, Same0 wr ww → AOut L T w gA gE (p + 1) ww) := fun ww hk => hO.same hk
        clear hTi hA hO
        go_upto_region 6 with (first | (go_at_call 91; refine CA.mono ?_; rintro e w1 ⟨nm, df, rfl, k1⟩))
        obtain ⟨w2, hw2⟩ : ∃ w2, w2 = w1.alloc (.cells #[.string nm, .int .i64 ((A : Nat) : Int), .bool df] 82) := ⟨_, rfl⟩
        have k2 : Same0 w1 w2 := by rw [hw2]; exact (Kept.refl _ _).alloc _
        have bx : w2.heap[w1.heap.size]? = some (.cells #[.string nm, .int .i64 ((A : Nat) : Int), .bool df] 82 (0, 0)) := by rw [hw2]; exact heap_alloc_new _ _
        rw [← hw2]
        clear hw2
        obtain ⟨s0, hg, hgA, hgE, en, f, n2, v2, h6, h7, h8⟩ := HO.out w2 (k1.trans' k2)
        obtain ⟨z0, z1⟩ := n2.cell hp
        have kE := kept_at w2 gE p (.int .i64 ((p : Int) + 1))
        have lA := v2.lt
        have lE := n2.lt
        have hbE : ¬ w1.heap.size = gE := fun e => by
          obtain ⟨cs, t, c1, c2, c3⟩ := n2
          rw [← e, bx] at c1
          simp only [Option.some.injEq, Obj.cells.injEq] at c1
          have := c3 0 (by omega)
          rw [← c1.1] at this
          simp at this
        have xA : (w2.setCell ⟨gE, p, none⟩ (.int .i64 ((p : Int) + 1))).cell? ⟨w1.heap.size, 1, none⟩ = some (.int .i64 ((A : Nat) : Int)) := (kE.cell (p := ⟨w1.heap.size, 1, none⟩) (lt_of_at bx) hbE).trans (cellAt bx 1)
        have START2 : AIn L T w2 gA gE p en f 0 (w2.setCell ⟨gE, p, none⟩ (.int .i64 ((p : Int) + 1))) := by
          refine ⟨kE.mono (fun _ _ e => .inl e), ?_, none, 0, ?_, World.ownsRow_nil _ _ _ _⟩
          · refine (n2.set p ((p : Int) + 1)).congr (fun q hq => ?_)
            by_cases e : q = p
            · rw [if_pos e, if_pos e]; simp [past]
            · rw [if_neg e, if_neg e]
          · refine (v2.kept kE (fun e => hg e)).congr (fun q hq => ?_)
            by_cases e : q = p
            · rw [if_pos e, e]; exact h7 p (by omega)
            · rw [if_neg e]
        have HS2 : Hid (AIn L T w2 gA gE p en f 0 (w2.setCell ⟨gE, p, none⟩ (.int .i64 ((p : Int) + 1)))) := START2
        have FIN2 : Hid (∀ ww, AIn L T w2 gA gE p en f A ww → AOut L T w gA gE p ww) := fun ww hI => by
          rw [← HA.out] at hI
          exact AIn.done HN.out.2 hp s0 hg hgA hgE h6 h7 h8 lA lE hI
        have MORE : Hid (∀ ww j vo vc, j < A → Kept (fun k => k = gE ∨ k = gA) w2 ww → Nums ww gE T.length (fun q => if q = p then (past L T j (p + 1) : Int) else en q) → Lsts ww gA T.length (fun q => if q = p then .slice vo j vc else f q) → ww.ownsRow w2.heap.size 3 1 (.slice vo j vc) j (iv (ofN (starts L T j (p + 1)))) → ∀ gg cap w1, w1.ownsRow w2.heap.size 3 1 (.slice (some ⟨gg, 0, none⟩) (j + 1) cap) (j + 1) (iv (ofN (starts L T j (p + 1))) ++ [.int .i64 (past L T j (p + 1) : Int)]) → Kept (fun k => (Value.slice vo j vc).ownBlock = some k) ww w1 → ((Value.slice vo j vc).ownBlock = some gg ∨ ww.heap.size ≤ gg) →
            (w1.cell? ⟨gA, p, none⟩ = some (.slice vo j vc) ∧ w1.frozen? ⟨gA, p, none⟩ = false) ∧ ((w1.setCell ⟨gA, p, none⟩ (.slice (some ⟨gg, 0, none⟩) (j + 1) cap)).cell? ⟨gE, p, none⟩ = some (.int .i64 (past L T j (p + 1) : Int)) ∧ (w1.setCell ⟨gA, p, none⟩ (.slice (some ⟨gg, 0, none⟩) (j + 1) cap)).cell? ⟨gE, past L T j (p + 1), none⟩ = some (.int .i64 (endN L T (past L T j (p + 1)) : Int)) ∧ (w1.setCell ⟨gA, p, none⟩ (.slice (some ⟨gg, 0, none⟩) (j + 1) cap)).frozen? ⟨gE, p, none⟩ = false) ∧ AIn L T w2 gA gE p en f (j + 1) ((w1.setCell ⟨gA, p, none⟩ (.slice (some ⟨gg, 0, none⟩) (j + 1) cap)).setCell ⟨gE, p, none⟩ (.int .i64 (endN L T (past L T j (p + 1)) : Int)))) := fun ww j vo vc hj a1 a2 a3 a4 gg cap w1 b1 b2 b3 => AIn.more HN.out.2 hp (by rw [HA.out]; exact hj) hg lA lE h6 a1 a2 a3 a4 b1 b2 b3
        have LT : Hid (∀ j, j < A → past L T j (p + 1) < N) := fun j hj => by
          have hf := (Forest.one HN.out.2 hp).kids.2
          rw [HA.out] at hf
          have hfk := hf.drop (i := j) (by omega)
          rw [show A - j = (A - j - 1) + 1 by omega] at hfk
          have := hfk.pos; have := hfk.le; have := HN.out.1; omega
        clear START2 h6 h7 h8 hbE n2 v2 CA bx
        go_upto_region 8 with fail
        go_loopw [39] (fun s39 wr => ∃ j : Nat, j ≤ A ∧ s39 = .int .i64 (j : Int) ∧ AIn L T w2 gA gE p en f j wr) (fun s39 _ => A - (intOf s39).toNat)
        case atStart => exact ⟨0, Nat.zero_le _, rfl, HS2.out⟩
        case round =>
          clear z0 z1 xA HS2 kE
          obtain ⟨j, hj, rfl, hI⟩ := hrel
          by_cases hlt : j < A
          · have hE := LT.out j hlt
            obtain ⟨b1, b2, vo, vc, b3, b4⟩ := hI
            have M := MORE.out wr j vo vc hlt b1 b2 b3 b4
            obtain ⟨c0, -⟩ := b2.cell hp
            obtain ⟨d0, d1⟩ := b3.cell hp
            simp only [if_true] at c0 d0
            have d2 : (wr.alloc (.cells #[.int .i64 (past L T j (p + 1) : Int)] 3)).cell? ⟨gA, p, none⟩ = some (.slice vo j vc) := cell_al d0 _
            have hbs : w2.heap.size ≤ (wr.alloc (.cells #[.int .i64 (past L T j (p + 1) : Int)] 3)).heap.size := by have := b1.size; simp; omega
            have hn1 : j + 1 ≤ maxLen := by unfold maxLen; omega
            generalize endN L T (past L T j (p + 1)) = Z at *
            generalize past L T j (p + 1) = E at *
            have MH : Hid _ := M
            have e1 : (0 : Int) ≤ (E : Int) := by omega
            have e2 : (E : Int) < (N : Int) := by omega
            have l1 : (j : Int) < (A : Int) := by omega
            clear M b1 b2 b3 MORE LT FIN2 CAT HT HO hnum
            go_upto_region 9 with fail
            go_region_law (refine step_append_lies _ (by rfl) _ _ 23 (by rfl) w2.heap.size 3 i1 _ 1 8 Tryz.underlying23 hi1 hz0 hz1 hz2 rfl (by omega) (.slice vo j vc) j (iv (ofN (starts L T j (p + 1)))) (by rfl) ((b4.alloc _).drew) ⟨wr.heap.size, 0, none⟩ 1 1 [.int .i64 (E : Int)] (by rfl) (by rfl) (World.news_of_block (cs := #[.int .i64 (E : Int)]) (t := 3) (fr := (0, 0)) (heap_alloc_new wr _)) (by simp [Value.oneCell']) (by omega) hn1 (by omega) hbs (wr.heap.size + 1) (by simp) ?_; intro gg cap w5 hown hgrow hat hlt5; obtain ⟨⟨m0, m1⟩, ⟨m2, m3, m4⟩, m5⟩ := MH.out gg cap w5 hown (Kept.grown (Kept.drew (Kept.alloc (Kept.refl _ wr) _)) hgrow (fun _ e _ => e)) (hat.imp id (fun e => by omega)))
            all_goals
              clear b4 c0 d0 d1 d2 MH
              go_wp2_with fail
              go_roundw
              case rel => exact ⟨j + 1, by omega, by go_num, m5⟩
              case measure => simp [intOf]; omega
          · obtain rfl : j = A := by omega
            have hF := FIN2.out _ hI
            clear hI FIN2 MORE LT
            go_wp2_with fail
            go_roundw
            case rel => first | exact ⟨p, by omega, by go_num, hF⟩ | ((repeat apply Exists.intro); exact ⟨⟨p, by omega, by go_num, hF⟩, rfl⟩)
            case measure => simp [intOf]
end Go.Proofs.YthamjjhioafkjaaGreat
namespace Go.Proofs.YthamjjhioafkjaaGreat
set_option maxRecDepth 100000
set_option linter.unusedVariables false
open Go.RowKit
attribute [local go_sem ↓] Go.wp_at_zero Go.wp_at_succ
def clsB (L : List Sym) (T : List Int) : Bool := decide (checkE L T = 0) && !(T.any (fun x => decide (x < 0)))
theorem vw_none (base : Nat) (w : World) (L : List Sym) (T : List Int) : VwAt base w L false T (.agg #[.slice none 0 0,.slice none 0 0]) := ⟨none,0,none,0,rfl,fun e => by cases e⟩
set_option maxHeartbeats 8000000 in
theorem over_any {n b : Nat} {w : World} {L : List Sym} (h : Sg n w b L) {ao : Option Addr} {cap : Nat} {T : List Int} (ht : Arg w ao T cap) :
    Calls Tryz.prog 23 #[.pointer (some ⟨b,0,none⟩),.slice ao T.length cap] w fun e w' => ∃ ho hn hc go gn gc,e = .returned (.agg #[.slice ho hn hc,.slice go gn gc]) ∧ VwAt w.heap.size w' L (clsB L T) T (.agg #[.slice ho hn hc,.slice go gn gc]) ∧ Same0 w w' := by
  have hmx : T.length ≤ maxLen := by have := ht.size; unfold maxLen; omega
  obtain ⟨W1, hW1⟩ : ∃ W1, W1 = w.alloc (.cells #[.slice none 0 0, .slice none 0 0] 70) := ⟨_, rfl⟩
  have KW : Same0 w W1 := by rw [hW1]; exact (Kept.refl _ w).alloc _
  have hbx : W1.heap[w.heap.size]? = some (.cells #[.slice none 0 0, .slice none 0 0] 70 (0, 0)) := by rw [hW1]; exact heap_alloc_new w _
  have RC : Hid (∀ ww, Same0 W1 ww → (ww.cell? ⟨w.heap.size, 0, none⟩ = some (.slice none 0 0) ∧ ww.cell? ⟨w.heap.size, 1, none⟩ = some (.slice none 0 0)) ∧ ww.frozen? ⟨w.heap.size, 0, none⟩ = false ∧ ww.frozen? ⟨w.heap.size, 1, none⟩ = false) := fun ww hk => by
    have := hk.at0 hbx
    exact ⟨⟨cellAt this 0, cellAt this 1⟩, frozenAt this 0, frozenAt this 1⟩
  have PUT : Hid (∀ ww x y, Same0 W1 ww → (((ww.setCell ⟨w.heap.size, 0, none⟩ x).setCell ⟨w.heap.size, 1, none⟩ y).cell? ⟨w.heap.size, 0, none⟩ = some x ∧ ((ww.setCell ⟨w.heap.size, 0, none⟩ x).setCell ⟨w.heap.size, 1, none⟩ y).cell? ⟨w.heap.size, 1, none⟩ = some y) ∧ Kept (fun k => k = w.heap.size) ww ((ww.setCell ⟨w.heap.size, 0, none⟩ x).setCell ⟨w.heap.size, 1, none⟩ y) ∧ Same0 w ((ww.setCell ⟨w.heap.size, 0, none⟩ x).setCell ⟨w.heap.size, 1, none⟩ y)) := fun ww x y hk => by
    have h1 := hk.at0 hbx
    have h2 := setAt (setAt h1 0 x) 1 y
    have k1 := kept_at ww w.heap.size 0 x
    have k2 := kept_at (ww.setCell ⟨w.heap.size, 0, none⟩ x) w.heap.size 1 y
    have k3 := Kept.trans k1 k2 (fun _ _ e => e)
    exact ⟨⟨cellAt h2 0, cellAt h2 1⟩, k3, Kept.trans (KW.trans' hk) k3 (fun i hi e => by omega)⟩
  have CK : Hid (∀ ww, Same0 w ww → Calls Tryz.prog 52 #[.pointer (some ⟨b, 0, none⟩), .slice ao T.length cap] ww fun e w' => e = .returned (.int .i64 (checkE L T)) ∧ Same0 ww w') := fun ww hk => check_any (h.same hk) (ht.at'.same hk) hmx
  have CV : Hid (∀ ww, Same0 w ww → Calls Tryz.prog 53 #[.slice ao T.length cap, .func (.func 54) #[] #[]] ww fun e w' => e = .returned (.bool (T.any (fun x => decide (x < 0)))) ∧ w' = ww) := fun ww hk => containsf_cvar (ht.at'.same hk) hmx
  have C1 := CK.out W1 KW
  obtain ⟨⟨r0, r1⟩, f0, f1⟩ := RC.out W1 (Kept.refl _ _)
  have NO : Hid (clsB L T = false → ∀ ww, Same0 w ww → VwAt w.heap.size ww L (clsB L T) T (.agg #[.slice none 0 0, .slice none 0 0]) ∧ Same0 w ww) := fun e ww hk => by rw [e]; exact ⟨vw_none _ _ _ _, hk⟩
  by_cases hz : checkE L T = 0
  · rw [hz] at C1
    cases hv : T.any (fun x => decide (x < 0)) with
    | true =>
      rw [hv] at CV
      have hc : clsB L T = false := by simp [clsB, hv]
      have FIN := NO.out hc
      have HF : Hid _ := FIN
      clear FIN hv hc NO ht h hz
      go_enter Tryz.func23, Tryz.ntmps23
      go_upto_region 1 with fail
      rw [← hW1]
      clear hW1
      go_upto_region 2 with (first
        | (go_at_call 52; refine C1.mono ?_; rintro e w2 ⟨rfl, k2⟩; have C2 := CV.out w2 (KW.trans' k2))
        | (go_at_call 53; refine C2.mono ?_; rintro e w3 ⟨rfl, rfl⟩; obtain ⟨⟨r2, r3⟩, f2, f3⟩ := RC.out _ k2))
      go_wp2_with fail
      obtain ⟨⟨g0, g1⟩, kk, ks⟩ := PUT.out _ (.slice none 0 0) (.slice none 0 0) k2
      exact bodyPost_ret (v := .agg #[.slice none 0 0, .slice none 0 0]) (by simp [results, Tryz.results23, go_sem, g0, g1]) rfl ⟨_, _, _, _, _, _, rfl, HF.out _ ks⟩
    | false =>
      rw [hv] at CV
      have hc : clsB L T = true := by simp [clsB, hv, hz]
      have hpos : ∀ x ∈ T, 0 ≤ x := fun x hx => by
        have := List.any_eq_false.1 hv x hx
        simpa using this
      have CT : Hid (∀ ww, Same0 w ww → Calls Tryz.prog 55 #[.slice ao T.length cap] ww fun e w' => ∃ go gc, e = .returned (.slice go T.length gc) ∧ Hid (IntsAt w' go T ∧ ∀ a, go = some a → ww.heap.size ≤ a.block) ∧ Same0 ww w') := fun ww hk => by
        refine (clone_term ((ht.at'.same hk)) (isT_pos (checkE_zero.1 hz).2.2) (checkE_zero.1 hz).1).mono ?_
        rintro e w' ⟨v, rfl, hr, hk'⟩
        obtain ⟨go, gc, rfl, g1, g2, g3⟩ := hr.ints
        exact ⟨go, gc, rfl, ⟨g1, fun a e => (g3 a e).1⟩, hk'⟩
      have CA : Hid (∀ ww, Same0 w ww → Calls Tryz.prog 56 #[.pointer (some ⟨b, 0, none⟩), .slice ao T.length cap] ww fun e w' => ∃ go gc, e = .returned (.slice go T.length gc) ∧ Hid (PsB ww.heap.size w' go (argsL L T)) ∧ Same0 ww w') := fun ww hk => argsOf_any (h.same hk) (ht.at'.same hk) hz hpos
      clear NO ht h hz hv
      go_enter Tryz.func23, Tryz.ntmps23
      go_upto_region 1 with fail
      rw [← hW1]
      clear hW1
      go_upto_region 3 with (first
        | (go_at_call 52; refine C1.mono ?_; rintro e w2 ⟨rfl, k2⟩; have C2 := CV.out w2 (KW.trans' k2))
        | (go_at_call 53; refine C2.mono ?_; rintro e w3 ⟨rfl, rfl⟩))
      have C3 := CT.out _ (KW.trans' k2)
      go_wp2_with (first
        | (go_at_call 55; refine C3.mono ?_; rintro e w4 ⟨go, gc, rfl, hg, k4⟩; have C4 := CA.out w4 ((KW.trans' k2).trans' k4))
        | (go_at_call 56; refine C4.mono ?_; rintro e w5 ⟨lo, lc, rfl, hl, k5⟩; obtain ⟨⟨r2, r3⟩, f2, f3⟩ := RC.out _ ((k2.trans' k4).trans' k5)))
      obtain ⟨⟨g0, g1⟩, kk, ks⟩ := PUT.out _ (.slice go T.length gc) (.slice lo T.length lc) ((k2.trans' k4).trans' k5)
      have z2 := (KW.trans' k2).size
      have z4 := k4.size
      have zW := lt_of_at hbx
      have zk := k2.size
      refine bodyPost_ret (v := .agg #[.slice go T.length gc, .slice lo T.length lc]) (by simp [results, Tryz.results23, go_sem, g0, g1]) rfl ⟨_, _, _, _, _, _, rfl, ?_, ks⟩
      rw [hc]
      obtain ⟨q1, q2⟩ := hg.out
      refine ⟨go, gc, lo, lc, rfl, fun _ => ⟨(q1.same k5).kept kk (fun a e => by have := q2 a e; omega), fun a e => by have := q2 a e; omega, ?_⟩⟩
      have hP := hl.out
      rcases hP with e0 | ⟨b', off, rfl, a1, a2, a3⟩
      · exact .inl e0
      · refine .inr ⟨b', off, rfl, by omega, Nat.lt_of_lt_of_le a2 kk.size, fun i hi => ?_⟩
        obtain ⟨xo, xc, y1, y2, y3⟩ := a3 i hi
        exact ⟨xo, xc, (kk.cell (p := ⟨b', off + i, none⟩) a2 (fun e => by have e' : b' = w.heap.size := e; omega)).trans y1, y2.kept kk (fun a e => by have := y3 a e; omega), fun a e => by have := y3 a e; omega⟩
  · have hc : clsB L T = false := by simp [clsB, hz]
    have FIN := NO.out hc
    have HF : Hid _ := FIN
    have hz' : (checkE L T == 0) = false := by simpa using hz
    generalize checkE L T = z at *
    clear FIN hc NO ht h CV CK
    go_enter Tryz.func23, Tryz.ntmps23
    go_upto_region 1 with fail
    rw [← hW1]
    clear hW1
    go_wp2_with (first
      | (go_at_call 52; refine C1.mono ?_; rintro e w2 ⟨rfl, k2⟩; obtain ⟨⟨r2, r3⟩, f2, f3⟩ := RC.out _ k2))
    obtain ⟨⟨g0, g1⟩, kk, ks⟩ := PUT.out _ (.slice none 0 0) (.slice none 0 0) k2
    exact bodyPost_ret (v := .agg #[.slice none 0 0, .slice none 0 0]) (by simp [results, Tryz.results23, go_sem, g0, g1]) rfl ⟨_, _, _, _, _, _, rfl, HF.out _ ks⟩
end Go.Proofs.YthamjjhioafkjaaGreat
