/- The walk of the law's ranged: All, left behind so many, and then whole. -/
import Derived.Test.YtaaoomociddopaaNumbers
import Derived.Test.YtaaoomociddopaaQuietRound
namespace Go.Proofs.Ytaaoomociddopaa
open Go.RowKit Go.Shelf
attribute [local go_sem] Oper.semAt_some
/-- The boxes of ranged's own variables. -/
structure Bxs (N : Nat) (lv : Value) (stop k : Int) (W : World) : Prop where
  b0 : Boxed W N 29 lv
  b1 : Boxed W (N + 1) 3 (.int .i64 stop)
  b2 : Boxed W (N + 1 + 1) 4 (.bool false)
  b3 : Boxed W (N + 1 + 1 + 1) 3 (.int .i64 k)
theorem boxed_turn {W W' : World} {row : Option Nat} {B : Nat} {t : TypeId} {v : Value} (h : Boxed W B t v) (hg : W.grownBy W' row) (hr : ∀ r, row = some r → ∃ o : Obj, W.heap[r]? = some o ∧ o.isCells = false) : Boxed W' B t v :=
  h.kept hg (fun e' => by obtain ⟨o, ho, hc⟩ := hr B e'.symm; rw [show W.heap[B]? = _ from h] at ho; cases ho; cases hc)
theorem Bxs.turn {N : Nat} {lv : Value} {stop k : Int} {W W' : World} {row : Option Nat} (h : Bxs N lv stop k W) (hg : W.grownBy W' row) (hr : ∀ r, row = some r → ∃ o : Obj, W.heap[r]? = some o ∧ o.isCells = false) : Bxs N lv stop k W' :=
  ⟨boxed_turn h.b0 hg hr, boxed_turn h.b1 hg hr, boxed_turn h.b2 hg hr, boxed_turn h.b3 hg hr⟩
theorem Bxs.alloc {N : Nat} {lv : Value} {stop k : Int} {W : World} (h : Bxs N lv stop k W) (o : Obj) : Bxs N lv stop k (W.alloc o) := h.turn (World.grownBy_alloc W o none) (fun r e => by cases e)
theorem Bxs.drewN {N : Nat} {lv : Value} {stop k : Int} {W : World} (h : Bxs N lv stop k W) (m : Nat) : Bxs N lv stop k (W.drewN m) := ⟨h.b0, h.b1, h.b2, h.b3⟩
theorem Bxs.set {N : Nat} {lv : Value} {stop k : Int} {W : World} (h : Bxs N lv stop k W) (k' : Int) : Bxs N lv stop k' (W.setCell ⟨N + 1 + 1 + 1, 0, none⟩ (.int .i64 k')) :=
  ⟨h.b0.other (by omega) _, h.b1.other (by omega) _, h.b2.other (by omega) _, h.b3.set _⟩
theorem keeps_set (B : Nat) (W : World) (m : Nat) (p : Addr) (v : Value) : KeepsFrom B W ((W.drewN m).setCell p v) :=
  ⟨(KeepsOthers.setCell W p v).size, fun k o _ hk ho => (KeepsOthers.setCell W p v).same k o hk ho⟩
theorem below_set {N : Nat} {w W : World} (h : Below N w W) {b : Nat} (hb : N ≤ b) (m : Nat) (v : Value) : Below N w ((W.drewN m).setCell ⟨b, 0, none⟩ v) :=
  have h' := h.setCell (p := ⟨b, 0, none⟩) hb v
  ⟨h'.os, h'.tape, h'.output, h'.size, h'.block⟩
theorem sym_eq_of {x y : Sym} (h1 : x.name = y.name) (h2 : x.ar = y.ar) (h3 : x.df = y.df) : x = y := by cases x; cases y; simp_all
theorem pre_snoc {L : List Sym} {pre : List (Sym × Nat)} {x : Sym × Nat} (hp : pre = L.zipIdx.take pre.length) (hk : pre.length < L.length) : (pre ++ [x] <+: L.zipIdx) ↔ x = (L[pre.length], pre.length) := by
  constructor
  · intro h
    have e1 : (pre ++ [x]) = L.zipIdx.take (pre ++ [x]).length := List.prefix_iff_eq_take.1 h
    have e2 : (pre ++ [x])[pre.length]? = some x := by simp
    rw [e1, List.getElem?_take, if_pos (by simp)] at e2
    rw [List.getElem?_eq_getElem (by simpa using hk)] at e2
    simpa using e2.symm
  · rintro rfl
    refine ⟨L.zipIdx.drop (pre.length + 1), ?_⟩
    have := take_zip hk
    rw [← hp] at this
    rw [← this]
    exact List.take_append_drop _ _
theorem pre_next {L : List Sym} {pre : List (Sym × Nat)} (hp : pre = L.zipIdx.take pre.length) (hk : pre.length < L.length) : pre ++ [(L[pre.length], pre.length)] = L.zipIdx.take (pre ++ [(L[pre.length], pre.length)]).length := by
  rw [List.length_append, List.length_singleton, take_zip hk, ← hp]
/-- How ranged leaves: its two marks are taken, its answer is read out of its box. -/
theorem ranged_end {w W2 : World} {lv : Value} {stop k : Int} {D D2 : Nat} (hbx : Bxs w.heap.size lv stop k W2) (hB : Below w.heap.size w W2) (h1 : w.heap.size + 1 + 1 < D) (h2 : w.heap.size + 1 + 1 < D2) (h3 : D < D2)
    (hD : W2.heap[D]? = some (.deferred (some []))) (hD2 : W2.heap[D2]? = some (.deferred (some []))) (tmps : Array Value) (ht : tmps[6]? = some (Value.pointer (some ⟨w.heap.size + 1 + 1, 0, none⟩)) := by rfl) :
    bodyPostM Fence.wide 9 Try.prog Try.f17 (fun e w' => e = Ending.returned (.bool true) ∧ Below w.heap.size w w') Exit.ret
      { tmps := tmps, defers := [{ target := Target.collected D2, args := #[] }, { target := Target.collected D, args := #[] }] } (W2.setCell ⟨w.heap.size + 1 + 1, 0, none⟩ (.bool true)) := by
  have b2 : Boxed (W2.setCell ⟨w.heap.size + 1 + 1, 0, none⟩ (.bool true)) (w.heap.size + 1 + 1) 4 (.bool true) := hbx.b2.set _
  have k2 : (W2.setCell ⟨w.heap.size + 1 + 1, 0, none⟩ (.bool true)).heap[D2]? = some (.deferred (some [])) := by rw [Below.heap_setCell _ _ _ _ (by simp; omega)]; exact hD2
  have kD : (W2.setCell ⟨w.heap.size + 1 + 1, 0, none⟩ (.bool true)).heap[D]? = some (.deferred (some [])) := by rw [Below.heap_setCell _ _ _ _ (by simp; omega)]; exact hD
  have B1 : Below w.heap.size w (W2.setCell ⟨w.heap.size + 1 + 1, 0, none⟩ (.bool true)) := hB.setCell (p := ⟨w.heap.size + 1 + 1, 0, none⟩) (by simp; omega) _
  obtain ⟨X, hX⟩ : ∃ X, W2.setCell ⟨w.heap.size + 1 + 1, 0, none⟩ (.bool true) = X := ⟨_, rfl⟩
  rw [hX] at b2 k2 kD B1 ⊢
  have kD' : (X.putObj D2 (.deferred none)).heap[D]? = some (.deferred (some [])) := ((grownBy_putObj' X D2 (.deferred none)).block D (lt_of_at kD) (fun e => by simp at e; omega)).trans kD
  have b3 := boxed_turn b2 (grownBy_putObj' X D2 (.deferred none)) (fun r e => by cases e; exact ⟨_, k2, rfl⟩)
  have b4 := boxed_turn b3 (grownBy_putObj' _ D (.deferred none)) (fun r e => by cases e; exact ⟨_, kD', rfl⟩)
  refine ⟨by simp, .inl ⟨_, _, rfl, run_takeDeferred k2, ?_⟩⟩
  refine ⟨by simp, .inl ⟨_, _, rfl, run_takeDeferred kD', ?_⟩⟩
  have hc := b4.cell
  refine ⟨.bool true, ?_, rfl, (B1.trans (belowK_b (w := w) (Nat.le_refl _) X D2 _ _ (by omega) k2 rfl rfl)).trans (belowK_b (w := w) (Nat.le_refl _) _ D _ _ (by omega) kD' rfl rfl)⟩
  simp [results, Try.results17, go_sem, hc, ht, Array.getD_eq_getD_getElem?]
set_option maxRecDepth 100000 in
set_option maxHeartbeats 8000000 in
theorem ranged_in {w : World} {b : Nat} {L : List Sym} {sv rv : Value} {mr : Option Nat} (hs : SigAt w b L sv mr) (hr : w.ownsRow 0 35 3 rv L.length (symCells L)) (stop : Int) (hst : 1 ≤ stop) (hst' : stop ≤ 1000) :
    CallsIn Fence.wide 9 Try.prog 17 #[.pointer (some ⟨b, 0, none⟩), rv, .int .i64 stop] w fun e w' => e = .returned (.bool true) ∧ Below w.heap.size w w' := by
  have hlen := hs.len
  have hFn : ∀ k, Fence.wide.fn k := fun _ => trivial
  obtain ⟨ao, cap, rfl⟩ := row_shape hr
  refine callsIn_of_wp_marks Try.func17 rfl trivial ?_ rfl
  simp only [Try.ntmps17, List.size_toArray, List.length_cons, List.length_nil, Nat.reduceAdd, Nat.reduceSub, Array.replicate_succ, Array.replicate_zero, List.push_toArray, List.append_toArray, List.nil_append, List.cons_append]
  gi_wp2_with (gi_at_call 22; refine (all_in Fence.wide _ trivial rfl _ _).mono ?_; rintro e w' ⟨rfl, rfl⟩)
  obtain ⟨W0, hW0⟩ : ∃ W0, ((((w.alloc (.cells #[.slice ao L.length cap] 29)).alloc (.cells #[.int .i64 stop] 3)).alloc (.cells #[.bool false] 4)).alloc (.cells #[.int .i64 0] 3)).alloc (.cells #[.pointer (some ⟨b, 0, none⟩)] 25) = W0 := ⟨_, rfl⟩
  have hsz : W0.heap.size = w.heap.size + 5 := by rw [← hW0]; simp
  have hB0 : Below w.heap.size w W0 := by rw [← hW0]; exact (((((Below.refl _ w).alloc (Nat.le_refl _) _).alloc (by simp) _).alloc (by simp; omega) _).alloc (by simp; omega) _).alloc (by simp; omega) _
  have hbx : Bxs w.heap.size (.slice ao L.length cap) stop 0 W0 := by
    rw [← hW0]
    refine ⟨((((Boxed.new w _ _).alloc _).alloc _).alloc _).alloc _, ?_, ?_, ?_⟩
    · have := (((Boxed.new (w.alloc (.cells #[.slice ao L.length cap] 29)) 3 (.int .i64 stop)).alloc (.cells #[.bool false] 4)).alloc (.cells #[.int .i64 0] 3)).alloc (.cells #[.pointer (some ⟨b, 0, none⟩)] 25)
      simpa using this
    · have := ((Boxed.new ((w.alloc (.cells #[.slice ao L.length cap] 29)).alloc (.cells #[.int .i64 stop] 3)) 4 (.bool false)).alloc (.cells #[.int .i64 0] 3)).alloc (.cells #[.pointer (some ⟨b, 0, none⟩)] 25)
      simpa using this
    · have := (Boxed.new (((w.alloc (.cells #[.slice ao L.length cap] 29)).alloc (.cells #[.int .i64 stop] 3)).alloc (.cells #[.bool false] 4)) 3 (.int .i64 0)).alloc (.cells #[.pointer (some ⟨b, 0, none⟩)] 25)
      simpa using this
  have bP : Boxed W0 (w.heap.size + 1 + 1 + 1 + 1) 25 (.pointer (some ⟨b, 0, none⟩)) := by
    rw [← hW0]
    have := Boxed.new ((((w.alloc (.cells #[.slice ao L.length cap] 29)).alloc (.cells #[.int .i64 stop] 3)).alloc (.cells #[.bool false] 4)).alloc (.cells #[.int .i64 0] 3)) 25 (.pointer (some ⟨b, 0, none⟩))
    simpa using this
  rw [hW0]
  clear hW0
  refine wpIn_rangeFunc_ownH rfl (by omega) (gf := 37) (lb := #[.pointer (some ⟨w.heap.size + 1 + 1 + 1 + 1, 0, none⟩)]) rfl trivial (enters_of Try.func37 (by kernel_rfl) rfl)
    (seq_stops Fence.wide _ trivial rfl (by omega) (w.heap.size + 1 + 1 + 1 + 1) w.heap.size _ L W0 (by omega) (by omega) bP.cell ((seqs_of hs).below hB0)) belowK_t (belowK_b (by omega)) (Below.refl _ _) (fun _ => rfl)
    (fun pre W => (pre = L.zipIdx.take pre.length ∧ (pre.length : Int) < stop ∧ Bxs w.heap.size (.slice ao L.length cap) stop (pre.length : Int) W) ∧ Below w.heap.size w W)
    (fun c pre W => ((c = .ret ∧ ¬ pre <+: L.zipIdx) ∨ (c = .exit 0 ∧ (pre.length : Int) = stop ∧ Bxs w.heap.size (.slice ao L.length cap) stop (pre.length : Int) W)) ∧ Below w.heap.size w W)
    (OwnFrom.and (fun s A B row hs hg hr => ⟨hs.1, hs.2.1, hs.2.2.turn hg (fun r e => (hr r e).2)⟩) (ownFrom_below (Nat.le_refl _) (by omega)))
    (fun c => OwnFrom.and (fun s A B row hs hg hr => hs.imp id (fun h => ⟨h.1, h.2.1, h.2.2.turn hg (fun r e => (hr r e).2)⟩)) (ownFrom_below (Nat.le_refl _) (by omega)))
    ⟨⟨by simp, by simp; omega, by simpa using hbx⟩, hB0⟩
    (fun x a' W => ∃ Bx, w.heap.size + 1 + 1 + 1 < Bx ∧ W.heap[Bx]? = some (.cells #[.string x.1.name, .int .i64 x.1.ar, .bool x.1.df] 35 (0, 0)) ∧ a' = { tmps := #[Value.pointer (some ⟨b, 0, none⟩), Value.slice ao L.length cap, Value.int .i64 stop, undef, Value.pointer (some ⟨w.heap.size, 0, none⟩), Value.pointer (some ⟨w.heap.size + 1, 0, none⟩), Value.pointer (some ⟨w.heap.size + 1 + 1, 0, none⟩), Value.pointer (some ⟨w.heap.size + 1 + 1 + 1, 0, none⟩), Value.int .i64 (x.2 : Int), Value.pointer (some ⟨Bx, 0, none⟩), undef, undef, Value.pointer (some ⟨b, 0, none⟩), Value.func (.func 37) #[] #[Value.pointer (some ⟨w.heap.size + 1 + 1 + 1 + 1, 0, none⟩)], Value.int .i64 (x.2 : Int), symV x.1, undef, undef, undef, undef, undef, undef, undef, undef, undef, undef, undef, undef, undef, undef, undef, undef, undef, undef, undef, undef, undef, undef, undef, undef, undef, undef, undef, undef, undef, undef, undef, undef, undef, undef, undef, undef, undef, undef, undef, undef, undef, undef, undef, undef, undef, undef, undef, undef, undef, undef, undef, undef, undef, undef, undef, undef, undef, undef], defers := [] })
    (fun x a' _ X Y row hs hg hr => by
      obtain ⟨Bx, h1, h2, h3⟩ := hs
      exact ⟨Bx, h1, (hg.block Bx (lt_of_at h2) (fun e => by obtain ⟨_, o, ho, hc⟩ := hr Bx e.symm; rw [h2] at ho; cases ho; cases hc)).trans h2, h3⟩)
    ?assign ?body ?done ?stop
  case assign =>
    rintro l pre x W K ⟨⟨hp, hlt, hbx1⟩, hB1⟩ hK
    gi_wp2
    exact hK _ _ ((KeepsOthers.alloc _ _).from _) ((Below.refl _ W).alloc hB1.size _) ⟨⟨hp, hlt, hbx1.alloc _⟩, hB1.alloc hB1.size _⟩ ⟨W.heap.size, hbx1.b3.lt, heap_alloc_new W _, rfl⟩
  case body =>
    rintro l pre x a' W hl ⟨r, hrr⟩ ⟨⟨hp, hlt, hbx1⟩, hB1⟩ ⟨Bx, hBx, bX, rfl⟩ hpl
    have HP := hideF hp
    clear hp
    have c0 := hbx1.b0.cell
    have c1 := hbx1.b1.cell
    have c2 := hbx1.b2.cell
    have c3 := hbx1.b3.cell
    have f2 := hbx1.b2.frozen
    have f3 := hbx1.b3.frozen
    obtain ⟨g, rfl, hgl, y0, y1, y2⟩ := row_sym ((Kept.ofBelow hB1).row hr (fun _ _ f => f)) hpl
    have x0 : W.cell? ⟨Bx, 0, none⟩ = some (.string x.1.name) := cellAt bX 0
    have x1 : W.cell? ⟨Bx, 1, none⟩ = some (.int .i64 x.1.ar) := cellAt bX 1
    have x2 : W.cell? ⟨Bx, 2, none⟩ = some (.bool x.1.df) := cellAt bX 2
    have i1 : (0 : Int) ≤ (pre.length : Int) := by omega
    have i2 : (pre.length : Int) < (L.length : Int) := by omega
    have i3 : decide (L.length ≤ pre.length) = false := by simp; omega
    by_cases hi : x.2 = pre.length
    · by_cases hx : x.1 = L[pre.length]
      · obtain rfl : x = (L[pre.length], pre.length) := Prod.ext hx hi
        clear hx hi
        gi_wp2_with (fail)
        refine region_quiet_round (by kernel_rfl) (by kernel_rfl) (by kernel_rfl) ?_
        repeat (go_big_quiet_step (fail))
        refine wpQuiet_nil ?_
        intro _ hw'
        obtain ⟨nq, hw''⟩ := hw'
        subst hw''
        gi_wp2_with (fail)
        · refine ⟨keeps_set _ _ _ _ _, .inr ⟨rfl, ?_, ?_⟩, below_set hB1 (by omega) _ _⟩
          · have h := ‹((pre.length : Int) + 1 == stop) = true›
            have h' : (pre.length : Int) + 1 = stop := by simpa using h
            simpa using h'
          · have := (hbx1.drewN nq).set ((pre.length : Int) + 1)
            simpa using this
        · refine ⟨keeps_set _ _ _ _ _, below_set (Below.refl _ W) (by omega) _ _, ⟨pre_next HP.out hpl, ?_, ?_⟩, below_set hB1 (by omega) _ _⟩
          · have h := ‹((pre.length : Int) + 1 == stop) = false›
            have h' : (pre.length : Int) + 1 ≠ stop := by simpa using h
            simp only [List.length_append, List.length_singleton]
            omega
          · have := (hbx1.drewN nq).set ((pre.length : Int) + 1)
            simpa using this
      · have hno : ¬ (pre ++ [x] <+: L.zipIdx) := fun h => hx (by rw [(pre_snoc HP.out hpl).1 h])
        by_cases e1 : x.1.name = L[pre.length].name
        · by_cases e2 : x.1.ar = L[pre.length].ar
          · have e3 : (x.1.df == L[pre.length].df) = false := by
              cases hq : (x.1.df == L[pre.length].df) with
              | false => rfl
              | true => exact absurd (sym_eq_of e1 e2 (by simpa using hq)) hx
            gi_wp2_with (fail)
            refine region_quiet_round (by kernel_rfl) (by kernel_rfl) (by kernel_rfl) ?_
            repeat (go_big_quiet_step (fail))
            refine wpQuiet_nil ?_
            intro _ hw'
            obtain ⟨nq, hw''⟩ := hw'
            subst hw''
            gi_wp2_with (fail)
            exact ⟨keeps_set _ _ _ _ _, .inl ⟨rfl, hno⟩, below_set hB1 (by omega) _ _⟩
          · have e2' : (x.1.ar == L[pre.length].ar) = false := by simpa using e2
            gi_wp2_with (fail)
            refine region_quiet_round (by kernel_rfl) (by kernel_rfl) (by kernel_rfl) ?_
            repeat (go_big_quiet_step (fail))
            refine wpQuiet_nil ?_
            intro _ hw'
            obtain ⟨nq, hw''⟩ := hw'
            subst hw''
            gi_wp2_with (fail)
            exact ⟨keeps_set _ _ _ _ _, .inl ⟨rfl, hno⟩, below_set hB1 (by omega) _ _⟩
        · have e1' := str_ne e1
          gi_wp2_with (fail)
          refine region_quiet_round (by kernel_rfl) (by kernel_rfl) (by kernel_rfl) ?_
          repeat (go_big_quiet_step (fail))
          refine wpQuiet_nil ?_
          intro _ hw'
          obtain ⟨nq, hw''⟩ := hw'
          subst hw''
          gi_wp2_with (fail)
          exact ⟨keeps_set _ _ _ _ _, .inl ⟨rfl, hno⟩, below_set hB1 (by omega) _ _⟩
    · have hne : ((x.2 : Int) != (pre.length : Int)) = true := by simp; omega
      have hno : ¬ (pre ++ [x] <+: L.zipIdx) := fun h => hi (by rw [(pre_snoc HP.out hpl).1 h])
      gi_wp2_with (fail)
      refine region_quiet_round (by kernel_rfl) (by kernel_rfl) (by kernel_rfl) ?_
      repeat (go_big_quiet_step (fail))
      refine wpQuiet_nil ?_
      intro _ hw'
      obtain ⟨nq, hw''⟩ := hw'
      subst hw''
      gi_wp2_with (fail)
      exact ⟨keeps_set _ _ _ _ _, .inl ⟨rfl, hno⟩, below_set hB1 (by omega) _ _⟩
  case done =>
    rintro D zs W hD rfl ⟨⟨_, hlt, hbx1⟩, hB1⟩ hK
    simp only [List.length_zipIdx] at hbx1 hlt
    have c0 := hbx1.b0.cell
    have c1 := hbx1.b1.cell
    have c3 := hbx1.b3.cell
    have f3 := hbx1.b3.frozen
    gi_wp2_with (gi_at_call 22; refine (all_in Fence.wide _ trivial rfl _ _).mono ?_; rintro e w' ⟨rfl, rfl⟩)
    have hDlt := lt_of_at hK
    obtain ⟨W1, hW1⟩ : ∃ W1, (W.setCell ⟨w.heap.size + 1 + 1 + 1, 0, none⟩ (.int .i64 0)).alloc (.cells #[.pointer (some ⟨b, 0, none⟩)] 25) = W1 := ⟨_, rfl⟩
    have hsz1 : W1.heap.size = W.heap.size + 1 := by rw [← hW1]; simp
    have hbx2 : Bxs w.heap.size (.slice ao L.length cap) (stop) 0 W1 := by rw [← hW1]; exact (hbx1.set 0).alloc _
    have bP2 : Boxed W1 W.heap.size 25 (.pointer (some ⟨b, 0, none⟩)) := by
      rw [← hW1]
      have := Boxed.new (W.setCell ⟨w.heap.size + 1 + 1 + 1, 0, none⟩ (.int .i64 0)) 25 (.pointer (some ⟨b, 0, none⟩))
      simpa using this
    have hB2 : Below w.heap.size w W1 := by rw [← hW1]; exact (hB1.setCell (p := ⟨w.heap.size + 1 + 1 + 1, 0, none⟩) (by simp; omega) _).alloc (by have := hB1.size; simpa using this) _
    have hK1 : W1.heap[D]? = some (.deferred (some [])) := by
      rw [← hW1, heap_alloc_old _ _ (by simpa using hDlt), Below.heap_setCell _ _ _ _ (by simp; omega)]
      exact hK
    rw [hW1]
    clear hW1 c0 c1 c3 f3
    refine wpIn_rangeFunc_ownH rfl (by omega) (gf := 37) (lb := #[.pointer (some ⟨W.heap.size, 0, none⟩)]) rfl trivial (enters_of Try.func37 (by kernel_rfl) rfl)
      (seq_stops Fence.wide _ trivial rfl (by omega) W.heap.size w.heap.size _ L W1 (by omega) (by have := hB1.size; omega) bP2.cell ((seqs_of hs).below hB2)) belowK_t (belowK_b (by have := hB1.size; omega)) (Below.refl _ _) (fun _ => rfl)
      (fun pb Wb => (pb = L.zipIdx.take pb.length ∧ Bxs w.heap.size (.slice ao L.length cap) (stop) (pb.length : Int) Wb ∧ Wb.heap[D]? = some (.deferred (some []))) ∧ Below w.heap.size w Wb)
      (fun c pre _ => c = .ret ∧ ¬ pre <+: L.zipIdx)
      (OwnFrom.and (fun s A B row hs hg hr => ⟨hs.1, hs.2.1.turn hg (fun r e => (hr r e).2), (hg.block D (lt_of_at hs.2.2) (fun e => by have := (hr D e.symm).1; omega)).trans hs.2.2⟩) (ownFrom_below (Nat.le_refl _) (by have := hB1.size; omega)))
      (fun c s A B row hs hg hr => hs)
      ⟨⟨by simp, by simpa using hbx2, hK1⟩, hB2⟩
      (fun x a' Wb => ∃ Bx, w.heap.size + 1 + 1 + 1 < Bx ∧ Wb.heap[Bx]? = some (.cells #[.string x.1.name, .int .i64 x.1.ar, .bool x.1.df] 35 (0, 0)) ∧ a' = { tmps := #[Value.pointer (some ⟨b, 0, none⟩), Value.slice ao L.length cap, Value.int .i64 (stop), undef, Value.pointer (some ⟨w.heap.size, 0, none⟩), Value.pointer (some ⟨w.heap.size + 1, 0, none⟩), Value.pointer (some ⟨w.heap.size + 1 + 1, 0, none⟩), Value.pointer (some ⟨w.heap.size + 1 + 1 + 1, 0, none⟩), undef, undef, Value.int .i64 (x.2 : Int), Value.pointer (some ⟨Bx, 0, none⟩), Value.pointer (some ⟨b, 0, none⟩), Value.func (.func 37) #[] #[Value.pointer (some ⟨w.heap.size + 1 + 1 + 1 + 1, 0, none⟩)], undef, undef, undef, undef, undef, undef, undef, undef, undef, undef, undef, undef, undef, undef, undef, undef, undef, undef, undef, undef, undef, undef, undef, undef, Value.int .i64 (L.length : Int), Value.slice ao L.length cap, Value.int .i64 (L.length : Int), Value.bool false, Value.bool false, undef, undef, undef, Value.bool false, Value.pointer (some ⟨b, 0, none⟩), Value.func (.func 37) #[] #[Value.pointer (some ⟨W.heap.size, 0, none⟩)], Value.int .i64 (x.2 : Int), symV x.1, undef, undef, undef, undef, undef, undef, undef, undef, undef, undef, undef, undef, undef, undef, undef, undef, undef, undef, undef, undef, undef, undef, undef], defers := [] })
      (fun x a' _ X Y row hs hg hr => by
        obtain ⟨Bx, h1, h2, h3⟩ := hs
        exact ⟨Bx, h1, (hg.block Bx (lt_of_at h2) (fun e => by obtain ⟨_, o, ho, hc⟩ := hr Bx e.symm; rw [h2] at ho; cases ho; cases hc)).trans h2, h3⟩)
      ?assign2 ?body2 ?done2 ?stop2
    case assign2 =>
      rintro l pre2 x W2 K ⟨⟨hp, hbx3, hD3⟩, hB3⟩ hK'
      gi_wp2
      exact hK' _ _ ((KeepsOthers.alloc _ _).from _) ((Below.refl _ W2).alloc hB3.size _) ⟨⟨hp, hbx3.alloc _, (heap_alloc_old _ _ (lt_of_at hD3)).trans hD3⟩, hB3.alloc hB3.size _⟩ ⟨W2.heap.size, hbx3.b3.lt, heap_alloc_new W2 _, rfl⟩
    case body2 =>
      rintro l pre2 x a' W2 hl ⟨r, hrr⟩ ⟨⟨hp, hbx3, hD3⟩, hB3⟩ ⟨Bx, hBx, bX, rfl⟩ hpl
      have HP := hideF hp
      clear hp
      have c0 := hbx3.b0.cell
      have c2 := hbx3.b2.cell
      have c3 := hbx3.b3.cell
      have f2 := hbx3.b2.frozen
      have f3 := hbx3.b3.frozen
      obtain ⟨g, rfl, hgl, y0, y1, y2⟩ := row_sym ((Kept.ofBelow hB3).row hr (fun _ _ f => f)) hpl
      have x0 : W2.cell? ⟨Bx, 0, none⟩ = some (.string x.1.name) := cellAt bX 0
      have x1 : W2.cell? ⟨Bx, 1, none⟩ = some (.int .i64 x.1.ar) := cellAt bX 1
      have x2 : W2.cell? ⟨Bx, 2, none⟩ = some (.bool x.1.df) := cellAt bX 2
      have i1 : (0 : Int) ≤ (pre2.length : Int) := by omega
      have i2 : (pre2.length : Int) < (L.length : Int) := by omega
      have i3 : decide (L.length ≤ pre2.length) = false := by simp; omega
      by_cases hi : x.2 = pre2.length
      · by_cases hx : x.1 = L[pre2.length]
        · obtain rfl : x = (L[pre2.length], pre2.length) := Prod.ext hx hi
          clear hx hi
          gi_wp2_with (fail)
          refine region_quiet_round (by kernel_rfl) (by kernel_rfl) (by kernel_rfl) ?_
          repeat (go_big_quiet_step (fail))
          refine wpQuiet_nil ?_
          intro _ hw'
          obtain ⟨nq, hw''⟩ := hw'
          subst hw''
          gi_wp2_with (fail)
          refine ⟨keeps_set _ _ _ _ _, below_set (Below.refl _ W2) (by omega) _ _, ⟨pre_next HP.out hpl, ?_, ?_⟩, below_set hB3 (by omega) _ _⟩
          · have := (hbx3.drewN nq).set ((pre2.length : Int) + 1)
            simpa using this
          · rw [Below.heap_setCell _ _ _ _ (by simp; omega)]; exact hD3
        · have hno : ¬ (pre2 ++ [x] <+: L.zipIdx) := fun h => hx (by rw [(pre_snoc HP.out hpl).1 h])
          by_cases e1 : x.1.name = L[pre2.length].name
          · by_cases e2 : x.1.ar = L[pre2.length].ar
            · have e3 : (x.1.df == L[pre2.length].df) = false := by
                cases hq : (x.1.df == L[pre2.length].df) with
                | false => rfl
                | true => exact absurd (sym_eq_of e1 e2 (by simpa using hq)) hx
              gi_wp2_with (fail)
              refine region_quiet_round (by kernel_rfl) (by kernel_rfl) (by kernel_rfl) ?_
              repeat (go_big_quiet_step (fail))
              refine wpQuiet_nil ?_
              intro _ hw'
              obtain ⟨nq, hw''⟩ := hw'
              subst hw''
              gi_wp2_with (fail)
              exact ⟨keeps_set _ _ _ _ _, rfl, hno⟩
            · have e2' : (x.1.ar == L[pre2.length].ar) = false := by simpa using e2
              gi_wp2_with (fail)
              refine region_quiet_round (by kernel_rfl) (by kernel_rfl) (by kernel_rfl) ?_
              repeat (go_big_quiet_step (fail))
              refine wpQuiet_nil ?_
              intro _ hw'
              obtain ⟨nq, hw''⟩ := hw'
              subst hw''
              gi_wp2_with (fail)
              exact ⟨keeps_set _ _ _ _ _, rfl, hno⟩
          · have e1' := str_ne e1
            gi_wp2_with (fail)
            refine region_quiet_round (by kernel_rfl) (by kernel_rfl) (by kernel_rfl) ?_
            repeat (go_big_quiet_step (fail))
            refine wpQuiet_nil ?_
            intro _ hw'
            obtain ⟨nq, hw''⟩ := hw'
            subst hw''
            gi_wp2_with (fail)
            exact ⟨keeps_set _ _ _ _ _, rfl, hno⟩
      · have hne2 : ((x.2 : Int) != (pre2.length : Int)) = true := by simp; omega
        have hno : ¬ (pre2 ++ [x] <+: L.zipIdx) := fun h => hi (by rw [(pre_snoc HP.out hpl).1 h])
        gi_wp2_with (fail)
        refine region_quiet_round (by kernel_rfl) (by kernel_rfl) (by kernel_rfl) ?_
        repeat (go_big_quiet_step (fail))
        refine wpQuiet_nil ?_
        intro _ hw'
        obtain ⟨nq, hw''⟩ := hw'
        subst hw''
        gi_wp2_with (fail)
        exact ⟨keeps_set _ _ _ _ _, rfl, hno⟩
    case done2 =>
      rintro D2 zs2 W2 hD2 rfl ⟨⟨_, hbx3, hD3⟩, hB3⟩ hKb
      simp only [List.length_zipIdx] at hbx3
      have c0 := hbx3.b0.cell
      have c2 := hbx3.b2.cell
      have c3 := hbx3.b3.cell
      have f2 := hbx3.b2.frozen
      gi_wp2_with (fail)
      exact ranged_end hbx3 hB3 (by omega) (by omega) (by omega) hD3 hKb _
    case stop2 =>
      rintro D2 c pre2 W2 _ hsp2 ⟨rfl, hno⟩ _
      exact absurd hsp2 hno
  case stop =>
    rintro D c pre W hD hsp ⟨h, hB1⟩ hK
    rcases h with ⟨rfl, hno⟩ | ⟨rfl, hst2, hbx1⟩
    · exact absurd hsp hno
    · by_cases e : pre.length = L.length
      · rw [e] at hbx1
        clear e hst2
        have c0 := hbx1.b0.cell
        have c1 := hbx1.b1.cell
        have c3 := hbx1.b3.cell
        have f3 := hbx1.b3.frozen
        gi_wp2_with (gi_at_call 22; refine (all_in Fence.wide _ trivial rfl _ _).mono ?_; rintro e w' ⟨rfl, rfl⟩)
        have hDlt := lt_of_at hK
        obtain ⟨W1, hW1⟩ : ∃ W1, (W.setCell ⟨w.heap.size + 1 + 1 + 1, 0, none⟩ (.int .i64 0)).alloc (.cells #[.pointer (some ⟨b, 0, none⟩)] 25) = W1 := ⟨_, rfl⟩
        have hsz1 : W1.heap.size = W.heap.size + 1 := by rw [← hW1]; simp
        have hbx2 : Bxs w.heap.size (.slice ao L.length cap) (stop) 0 W1 := by rw [← hW1]; exact (hbx1.set 0).alloc _
        have bP2 : Boxed W1 W.heap.size 25 (.pointer (some ⟨b, 0, none⟩)) := by
          rw [← hW1]
          have := Boxed.new (W.setCell ⟨w.heap.size + 1 + 1 + 1, 0, none⟩ (.int .i64 0)) 25 (.pointer (some ⟨b, 0, none⟩))
          simpa using this
        have hB2 : Below w.heap.size w W1 := by rw [← hW1]; exact (hB1.setCell (p := ⟨w.heap.size + 1 + 1 + 1, 0, none⟩) (by simp; omega) _).alloc (by have := hB1.size; simpa using this) _
        have hK1 : W1.heap[D]? = some (.deferred (some [])) := by
          rw [← hW1, heap_alloc_old _ _ (by simpa using hDlt), Below.heap_setCell _ _ _ _ (by simp; omega)]
          exact hK
        rw [hW1]
        clear hW1 c0 c1 c3 f3
        refine wpIn_rangeFunc_ownH rfl (by omega) (gf := 37) (lb := #[.pointer (some ⟨W.heap.size, 0, none⟩)]) rfl trivial (enters_of Try.func37 (by kernel_rfl) rfl)
          (seq_stops Fence.wide _ trivial rfl (by omega) W.heap.size w.heap.size _ L W1 (by omega) (by have := hB1.size; omega) bP2.cell ((seqs_of hs).below hB2)) belowK_t (belowK_b (by have := hB1.size; omega)) (Below.refl _ _) (fun _ => rfl)
          (fun pb Wb => (pb = L.zipIdx.take pb.length ∧ Bxs w.heap.size (.slice ao L.length cap) (stop) (pb.length : Int) Wb ∧ Wb.heap[D]? = some (.deferred (some []))) ∧ Below w.heap.size w Wb)
          (fun c pre _ => c = .ret ∧ ¬ pre <+: L.zipIdx)
          (OwnFrom.and (fun s A B row hs hg hr => ⟨hs.1, hs.2.1.turn hg (fun r e => (hr r e).2), (hg.block D (lt_of_at hs.2.2) (fun e => by have := (hr D e.symm).1; omega)).trans hs.2.2⟩) (ownFrom_below (Nat.le_refl _) (by have := hB1.size; omega)))
          (fun c s A B row hs hg hr => hs)
          ⟨⟨by simp, by simpa using hbx2, hK1⟩, hB2⟩
          (fun x a' Wb => ∃ Bx, w.heap.size + 1 + 1 + 1 < Bx ∧ Wb.heap[Bx]? = some (.cells #[.string x.1.name, .int .i64 x.1.ar, .bool x.1.df] 35 (0, 0)) ∧ a' = { tmps := #[Value.pointer (some ⟨b, 0, none⟩), Value.slice ao L.length cap, Value.int .i64 (stop), undef, Value.pointer (some ⟨w.heap.size, 0, none⟩), Value.pointer (some ⟨w.heap.size + 1, 0, none⟩), Value.pointer (some ⟨w.heap.size + 1 + 1, 0, none⟩), Value.pointer (some ⟨w.heap.size + 1 + 1 + 1, 0, none⟩), undef, undef, Value.int .i64 (x.2 : Int), Value.pointer (some ⟨Bx, 0, none⟩), Value.pointer (some ⟨b, 0, none⟩), Value.func (.func 37) #[] #[Value.pointer (some ⟨w.heap.size + 1 + 1 + 1 + 1, 0, none⟩)], undef, undef, undef, undef, undef, undef, undef, undef, undef, undef, undef, undef, undef, undef, undef, undef, undef, undef, undef, undef, undef, undef, undef, undef, Value.int .i64 (L.length : Int), Value.slice ao L.length cap, Value.int .i64 (L.length : Int), Value.bool false, Value.bool false, undef, undef, undef, Value.bool false, Value.pointer (some ⟨b, 0, none⟩), Value.func (.func 37) #[] #[Value.pointer (some ⟨W.heap.size, 0, none⟩)], Value.int .i64 (x.2 : Int), symV x.1, undef, undef, undef, undef, undef, undef, undef, undef, undef, undef, undef, undef, undef, undef, undef, undef, undef, undef, undef, undef, undef, undef, undef], defers := [] })
          (fun x a' _ X Y row hs hg hr => by
            obtain ⟨Bx, h1, h2, h3⟩ := hs
            exact ⟨Bx, h1, (hg.block Bx (lt_of_at h2) (fun e => by obtain ⟨_, o, ho, hc⟩ := hr Bx e.symm; rw [h2] at ho; cases ho; cases hc)).trans h2, h3⟩)
          ?assign2 ?body2 ?done2 ?stop2
        case assign2 =>
          rintro l pre2 x W2 K ⟨⟨hp, hbx3, hD3⟩, hB3⟩ hK'
          gi_wp2
          exact hK' _ _ ((KeepsOthers.alloc _ _).from _) ((Below.refl _ W2).alloc hB3.size _) ⟨⟨hp, hbx3.alloc _, (heap_alloc_old _ _ (lt_of_at hD3)).trans hD3⟩, hB3.alloc hB3.size _⟩ ⟨W2.heap.size, hbx3.b3.lt, heap_alloc_new W2 _, rfl⟩
        case body2 =>
          rintro l pre2 x a' W2 hl ⟨r, hrr⟩ ⟨⟨hp, hbx3, hD3⟩, hB3⟩ ⟨Bx, hBx, bX, rfl⟩ hpl
          have HP := hideF hp
          clear hp
          have c0 := hbx3.b0.cell
          have c2 := hbx3.b2.cell
          have c3 := hbx3.b3.cell
          have f2 := hbx3.b2.frozen
          have f3 := hbx3.b3.frozen
          obtain ⟨g, rfl, hgl, y0, y1, y2⟩ := row_sym ((Kept.ofBelow hB3).row hr (fun _ _ f => f)) hpl
          have x0 : W2.cell? ⟨Bx, 0, none⟩ = some (.string x.1.name) := cellAt bX 0
          have x1 : W2.cell? ⟨Bx, 1, none⟩ = some (.int .i64 x.1.ar) := cellAt bX 1
          have x2 : W2.cell? ⟨Bx, 2, none⟩ = some (.bool x.1.df) := cellAt bX 2
          have i1 : (0 : Int) ≤ (pre2.length : Int) := by omega
          have i2 : (pre2.length : Int) < (L.length : Int) := by omega
          have i3 : decide (L.length ≤ pre2.length) = false := by simp; omega
          by_cases hi : x.2 = pre2.length
          · by_cases hx : x.1 = L[pre2.length]
            · obtain rfl : x = (L[pre2.length], pre2.length) := Prod.ext hx hi
              clear hx hi
              gi_wp2_with (fail)
              refine region_quiet_round (by kernel_rfl) (by kernel_rfl) (by kernel_rfl) ?_
              repeat (go_big_quiet_step (fail))
              refine wpQuiet_nil ?_
              intro _ hw'
              obtain ⟨nq, hw''⟩ := hw'
              subst hw''
              gi_wp2_with (fail)
              refine ⟨keeps_set _ _ _ _ _, below_set (Below.refl _ W2) (by omega) _ _, ⟨pre_next HP.out hpl, ?_, ?_⟩, below_set hB3 (by omega) _ _⟩
              · have := (hbx3.drewN nq).set ((pre2.length : Int) + 1)
                simpa using this
              · rw [Below.heap_setCell _ _ _ _ (by simp; omega)]; exact hD3
            · have hno : ¬ (pre2 ++ [x] <+: L.zipIdx) := fun h => hx (by rw [(pre_snoc HP.out hpl).1 h])
              by_cases e1 : x.1.name = L[pre2.length].name
              · by_cases e2 : x.1.ar = L[pre2.length].ar
                · have e3 : (x.1.df == L[pre2.length].df) = false := by
                    cases hq : (x.1.df == L[pre2.length].df) with
                    | false => rfl
                    | true => exact absurd (sym_eq_of e1 e2 (by simpa using hq)) hx
                  gi_wp2_with (fail)
                  refine region_quiet_round (by kernel_rfl) (by kernel_rfl) (by kernel_rfl) ?_
                  repeat (go_big_quiet_step (fail))
                  refine wpQuiet_nil ?_
                  intro _ hw'
                  obtain ⟨nq, hw''⟩ := hw'
                  subst hw''
                  gi_wp2_with (fail)
                  exact ⟨keeps_set _ _ _ _ _, rfl, hno⟩
                · have e2' : (x.1.ar == L[pre2.length].ar) = false := by simpa using e2
                  gi_wp2_with (fail)
                  refine region_quiet_round (by kernel_rfl) (by kernel_rfl) (by kernel_rfl) ?_
                  repeat (go_big_quiet_step (fail))
                  refine wpQuiet_nil ?_
                  intro _ hw'
                  obtain ⟨nq, hw''⟩ := hw'
                  subst hw''
                  gi_wp2_with (fail)
                  exact ⟨keeps_set _ _ _ _ _, rfl, hno⟩
              · have e1' := str_ne e1
                gi_wp2_with (fail)
                refine region_quiet_round (by kernel_rfl) (by kernel_rfl) (by kernel_rfl) ?_
                repeat (go_big_quiet_step (fail))
                refine wpQuiet_nil ?_
                intro _ hw'
                obtain ⟨nq, hw''⟩ := hw'
                subst hw''
                gi_wp2_with (fail)
                exact ⟨keeps_set _ _ _ _ _, rfl, hno⟩
          · have hne2 : ((x.2 : Int) != (pre2.length : Int)) = true := by simp; omega
            have hno : ¬ (pre2 ++ [x] <+: L.zipIdx) := fun h => hi (by rw [(pre_snoc HP.out hpl).1 h])
            gi_wp2_with (fail)
            refine region_quiet_round (by kernel_rfl) (by kernel_rfl) (by kernel_rfl) ?_
            repeat (go_big_quiet_step (fail))
            refine wpQuiet_nil ?_
            intro _ hw'
            obtain ⟨nq, hw''⟩ := hw'
            subst hw''
            gi_wp2_with (fail)
            exact ⟨keeps_set _ _ _ _ _, rfl, hno⟩
        case done2 =>
          rintro D2 zs2 W2 hD2 rfl ⟨⟨_, hbx3, hD3⟩, hB3⟩ hKb
          simp only [List.length_zipIdx] at hbx3
          have c0 := hbx3.b0.cell
          have c2 := hbx3.b2.cell
          have c3 := hbx3.b3.cell
          have f2 := hbx3.b2.frozen
          gi_wp2_with (fail)
          exact ranged_end hbx3 hB3 (by omega) (by omega) (by omega) hD3 hKb _
        case stop2 =>
          rintro D2 c pre2 W2 _ hsp2 ⟨rfl, hno⟩ _
          exact absurd hsp2 hno
      · have hne : ((pre.length : Int) != (L.length : Int)) = true := by simp; omega
        subst hst2
        have c0 := hbx1.b0.cell
        have c1 := hbx1.b1.cell
        have c3 := hbx1.b3.cell
        have f3 := hbx1.b3.frozen
        gi_wp2_with (gi_at_call 22; refine (all_in Fence.wide _ trivial rfl _ _).mono ?_; rintro e w' ⟨rfl, rfl⟩)
        have hDlt := lt_of_at hK
        obtain ⟨W1, hW1⟩ : ∃ W1, (W.setCell ⟨w.heap.size + 1 + 1 + 1, 0, none⟩ (.int .i64 0)).alloc (.cells #[.pointer (some ⟨b, 0, none⟩)] 25) = W1 := ⟨_, rfl⟩
        have hsz1 : W1.heap.size = W.heap.size + 1 := by rw [← hW1]; simp
        have hbx2 : Bxs w.heap.size (.slice ao L.length cap) ((pre.length : Int)) 0 W1 := by rw [← hW1]; exact (hbx1.set 0).alloc _
        have bP2 : Boxed W1 W.heap.size 25 (.pointer (some ⟨b, 0, none⟩)) := by
          rw [← hW1]
          have := Boxed.new (W.setCell ⟨w.heap.size + 1 + 1 + 1, 0, none⟩ (.int .i64 0)) 25 (.pointer (some ⟨b, 0, none⟩))
          simpa using this
        have hB2 : Below w.heap.size w W1 := by rw [← hW1]; exact (hB1.setCell (p := ⟨w.heap.size + 1 + 1 + 1, 0, none⟩) (by simp; omega) _).alloc (by have := hB1.size; simpa using this) _
        have hK1 : W1.heap[D]? = some (.deferred (some [])) := by
          rw [← hW1, heap_alloc_old _ _ (by simpa using hDlt), Below.heap_setCell _ _ _ _ (by simp; omega)]
          exact hK
        rw [hW1]
        clear hW1 c0 c1 c3 f3
        refine wpIn_rangeFunc_ownH rfl (by omega) (gf := 37) (lb := #[.pointer (some ⟨W.heap.size, 0, none⟩)]) rfl trivial (enters_of Try.func37 (by kernel_rfl) rfl)
          (seq_stops Fence.wide _ trivial rfl (by omega) W.heap.size w.heap.size _ L W1 (by omega) (by have := hB1.size; omega) bP2.cell ((seqs_of hs).below hB2)) belowK_t (belowK_b (by have := hB1.size; omega)) (Below.refl _ _) (fun _ => rfl)
          (fun pb Wb => (pb = L.zipIdx.take pb.length ∧ Bxs w.heap.size (.slice ao L.length cap) ((pre.length : Int)) (pb.length : Int) Wb ∧ Wb.heap[D]? = some (.deferred (some []))) ∧ Below w.heap.size w Wb)
          (fun c pre _ => c = .ret ∧ ¬ pre <+: L.zipIdx)
          (OwnFrom.and (fun s A B row hs hg hr => ⟨hs.1, hs.2.1.turn hg (fun r e => (hr r e).2), (hg.block D (lt_of_at hs.2.2) (fun e => by have := (hr D e.symm).1; omega)).trans hs.2.2⟩) (ownFrom_below (Nat.le_refl _) (by have := hB1.size; omega)))
          (fun c s A B row hs hg hr => hs)
          ⟨⟨by simp, by simpa using hbx2, hK1⟩, hB2⟩
          (fun x a' Wb => ∃ Bx, w.heap.size + 1 + 1 + 1 < Bx ∧ Wb.heap[Bx]? = some (.cells #[.string x.1.name, .int .i64 x.1.ar, .bool x.1.df] 35 (0, 0)) ∧ a' = { tmps := #[Value.pointer (some ⟨b, 0, none⟩), Value.slice ao L.length cap, Value.int .i64 ((pre.length : Int)), undef, Value.pointer (some ⟨w.heap.size, 0, none⟩), Value.pointer (some ⟨w.heap.size + 1, 0, none⟩), Value.pointer (some ⟨w.heap.size + 1 + 1, 0, none⟩), Value.pointer (some ⟨w.heap.size + 1 + 1 + 1, 0, none⟩), undef, undef, Value.int .i64 (x.2 : Int), Value.pointer (some ⟨Bx, 0, none⟩), Value.pointer (some ⟨b, 0, none⟩), Value.func (.func 37) #[] #[Value.pointer (some ⟨w.heap.size + 1 + 1 + 1 + 1, 0, none⟩)], undef, undef, undef, undef, undef, undef, undef, undef, undef, undef, undef, undef, undef, undef, undef, undef, undef, undef, undef, undef, undef, undef, undef, undef, Value.int .i64 (pre.length : Int), Value.slice ao L.length cap, Value.int .i64 (L.length : Int), Value.bool true, Value.bool true, Value.int .i64 (pre.length : Int), Value.int .i64 (pre.length : Int), Value.bool false, Value.bool false, Value.pointer (some ⟨b, 0, none⟩), Value.func (.func 37) #[] #[Value.pointer (some ⟨W.heap.size, 0, none⟩)], Value.int .i64 (x.2 : Int), symV x.1, undef, undef, undef, undef, undef, undef, undef, undef, undef, undef, undef, undef, undef, undef, undef, undef, undef, undef, undef, undef, undef, undef, undef], defers := [] })
          (fun x a' _ X Y row hs hg hr => by
            obtain ⟨Bx, h1, h2, h3⟩ := hs
            exact ⟨Bx, h1, (hg.block Bx (lt_of_at h2) (fun e => by obtain ⟨_, o, ho, hc⟩ := hr Bx e.symm; rw [h2] at ho; cases ho; cases hc)).trans h2, h3⟩)
          ?assign2 ?body2 ?done2 ?stop2
        case assign2 =>
          rintro l pre2 x W2 K ⟨⟨hp, hbx3, hD3⟩, hB3⟩ hK'
          gi_wp2
          exact hK' _ _ ((KeepsOthers.alloc _ _).from _) ((Below.refl _ W2).alloc hB3.size _) ⟨⟨hp, hbx3.alloc _, (heap_alloc_old _ _ (lt_of_at hD3)).trans hD3⟩, hB3.alloc hB3.size _⟩ ⟨W2.heap.size, hbx3.b3.lt, heap_alloc_new W2 _, rfl⟩
        case body2 =>
          rintro l pre2 x a' W2 hl ⟨r, hrr⟩ ⟨⟨hp, hbx3, hD3⟩, hB3⟩ ⟨Bx, hBx, bX, rfl⟩ hpl
          have HP := hideF hp
          clear hp
          have c0 := hbx3.b0.cell
          have c2 := hbx3.b2.cell
          have c3 := hbx3.b3.cell
          have f2 := hbx3.b2.frozen
          have f3 := hbx3.b3.frozen
          obtain ⟨g, rfl, hgl, y0, y1, y2⟩ := row_sym ((Kept.ofBelow hB3).row hr (fun _ _ f => f)) hpl
          have x0 : W2.cell? ⟨Bx, 0, none⟩ = some (.string x.1.name) := cellAt bX 0
          have x1 : W2.cell? ⟨Bx, 1, none⟩ = some (.int .i64 x.1.ar) := cellAt bX 1
          have x2 : W2.cell? ⟨Bx, 2, none⟩ = some (.bool x.1.df) := cellAt bX 2
          have i1 : (0 : Int) ≤ (pre2.length : Int) := by omega
          have i2 : (pre2.length : Int) < (L.length : Int) := by omega
          have i3 : decide (L.length ≤ pre2.length) = false := by simp; omega
          by_cases hi : x.2 = pre2.length
          · by_cases hx : x.1 = L[pre2.length]
            · obtain rfl : x = (L[pre2.length], pre2.length) := Prod.ext hx hi
              clear hx hi
              gi_wp2_with (fail)
              refine region_quiet_round (by kernel_rfl) (by kernel_rfl) (by kernel_rfl) ?_
              repeat (go_big_quiet_step (fail))
              refine wpQuiet_nil ?_
              intro _ hw'
              obtain ⟨nq, hw''⟩ := hw'
              subst hw''
              gi_wp2_with (fail)
              refine ⟨keeps_set _ _ _ _ _, below_set (Below.refl _ W2) (by omega) _ _, ⟨pre_next HP.out hpl, ?_, ?_⟩, below_set hB3 (by omega) _ _⟩
              · have := (hbx3.drewN nq).set ((pre2.length : Int) + 1)
                simpa using this
              · rw [Below.heap_setCell _ _ _ _ (by simp; omega)]; exact hD3
            · have hno : ¬ (pre2 ++ [x] <+: L.zipIdx) := fun h => hx (by rw [(pre_snoc HP.out hpl).1 h])
              by_cases e1 : x.1.name = L[pre2.length].name
              · by_cases e2 : x.1.ar = L[pre2.length].ar
                · have e3 : (x.1.df == L[pre2.length].df) = false := by
                    cases hq : (x.1.df == L[pre2.length].df) with
                    | false => rfl
                    | true => exact absurd (sym_eq_of e1 e2 (by simpa using hq)) hx
                  gi_wp2_with (fail)
                  refine region_quiet_round (by kernel_rfl) (by kernel_rfl) (by kernel_rfl) ?_
                  repeat (go_big_quiet_step (fail))
                  refine wpQuiet_nil ?_
                  intro _ hw'
                  obtain ⟨nq, hw''⟩ := hw'
                  subst hw''
                  gi_wp2_with (fail)
                  exact ⟨keeps_set _ _ _ _ _, rfl, hno⟩
                · have e2' : (x.1.ar == L[pre2.length].ar) = false := by simpa using e2
                  gi_wp2_with (fail)
                  refine region_quiet_round (by kernel_rfl) (by kernel_rfl) (by kernel_rfl) ?_
                  repeat (go_big_quiet_step (fail))
                  refine wpQuiet_nil ?_
                  intro _ hw'
                  obtain ⟨nq, hw''⟩ := hw'
                  subst hw''
                  gi_wp2_with (fail)
                  exact ⟨keeps_set _ _ _ _ _, rfl, hno⟩
              · have e1' := str_ne e1
                gi_wp2_with (fail)
                refine region_quiet_round (by kernel_rfl) (by kernel_rfl) (by kernel_rfl) ?_
                repeat (go_big_quiet_step (fail))
                refine wpQuiet_nil ?_
                intro _ hw'
                obtain ⟨nq, hw''⟩ := hw'
                subst hw''
                gi_wp2_with (fail)
                exact ⟨keeps_set _ _ _ _ _, rfl, hno⟩
          · have hne2 : ((x.2 : Int) != (pre2.length : Int)) = true := by simp; omega
            have hno : ¬ (pre2 ++ [x] <+: L.zipIdx) := fun h => hi (by rw [(pre_snoc HP.out hpl).1 h])
            gi_wp2_with (fail)
            refine region_quiet_round (by kernel_rfl) (by kernel_rfl) (by kernel_rfl) ?_
            repeat (go_big_quiet_step (fail))
            refine wpQuiet_nil ?_
            intro _ hw'
            obtain ⟨nq, hw''⟩ := hw'
            subst hw''
            gi_wp2_with (fail)
            exact ⟨keeps_set _ _ _ _ _, rfl, hno⟩
        case done2 =>
          rintro D2 zs2 W2 hD2 rfl ⟨⟨_, hbx3, hD3⟩, hB3⟩ hKb
          simp only [List.length_zipIdx] at hbx3
          have c0 := hbx3.b0.cell
          have c2 := hbx3.b2.cell
          have c3 := hbx3.b3.cell
          have f2 := hbx3.b2.frozen
          gi_wp2_with (fail)
          exact ranged_end hbx3 hB3 (by omega) (by omega) (by omega) hD3 hKb _
        case stop2 =>
          rintro D2 c pre2 W2 _ hsp2 ⟨rfl, hno⟩ _
          exact absurd hsp2 hno
end Go.Proofs.Ytaaoomociddopaa
