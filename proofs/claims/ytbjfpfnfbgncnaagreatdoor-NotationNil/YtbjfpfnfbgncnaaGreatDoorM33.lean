import Derived.Test.YtbjfpfnfbgncnaaGreatDoorM32
import Derived.Test.YtbjfpfnfbgncnaaGreatDoorM20
import Derived.Test.YtbjfpfnfbgncnaaGreatDoorM21
/- The walk of what reads one move. -/
namespace Go.Proofs.YtbjfpfnfbgncnaaGreatDoor
open Go.RowKit
set_option linter.unusedVariables false
set_option maxRecDepth 100000
/-- Moves so far, after calls that turn the reader alone. -/
theorem MovesA.step {w0 wc wd : World} {rb tb rv vb : Nat} {a : List Mv} {lv : Value} {pv : List Value} (C : Col 99 144 3 w0 rb tb rv vb a.length (mvCells a pv) wc lv) (P : Paths w0.heap.size wc a pv lv.ownBlock) (k : Kept (fun i => i = rb) wc wd) :
    Col 99 144 3 w0 rb tb rv vb a.length (mvCells a pv) wd lv ∧ Paths w0.heap.size wd a pv lv.ownBlock :=
  ⟨C.rd k, P.kept k (fun j h1 h2 e => by have := C.lt; omega) (fun _ _ e => e)⟩
set_option maxHeartbeats 4000000 in
theorem moves1_reads {w0 : World} {rb tb rv vb F B : Nat} (hB : B ≤ 50000) : Reads List.length F B w0.heap.size rb tb 73 #[.pointer (some ⟨rv, 0, none⟩), .pointer (some ⟨vb, 0, none⟩)] oneM (MovesA w0 rb tb rv vb) (fun w' => Kept (fun i => i = rb ∨ i = vb) w0 w') := by
  rintro ts a wc hE hF hz hR ⟨lv, pv, C, P⟩
  have hw0 := C.kept.size
  obtain ⟨s0, s1, f1⟩ := C.cells
  have c1 := path_any hE hR (by omega)
  have hat : ∃ off cap, wc.cell? ⟨rb, 0, none⟩ = some (.slice (some ⟨tb, off, none⟩) ts.length cap) ∧ wc.cell? ⟨tb, off + 1, none⟩ = some (.int .i64 (headAt ts : Int)) ∧ 0 < ts.length := by
    cases ts with
    | nil => exact absurd rfl hE.ne
    | cons t r =>
      obtain ⟨hne, off, cap, hb, hc, hm, ha⟩ := hR
      have b0 := cellAt hb 0
      simp only [List.getElem?_toArray, List.getElem?_cons_zero] at b0
      exact ⟨off, cap, b0, ha.head.2.1, by simp⟩
  obtain ⟨off, cp, b0, b1, hpos⟩ := hat
  obtain ⟨ao, cap, rfl⟩ : ∃ ao cap, lv = .slice ao a.length cap := row_shape C.row
  have HC : Hid (Col 99 144 3 w0 rb tb rv vb a.length (mvCells a pv) wc (.slice ao a.length cap)) := C
  have HP : Hid (Paths w0.heap.size wc a pv (Value.slice ao a.length cap).ownBlock) := P
  have HZ : Hid (a.length + ts.length ≤ B) := hz
  have hz1 : a.length ≤ 100000 := by omega
  have hpl : 0 < (ts.length : Int) := by omega
  obtain ⟨N, hN⟩ : ∃ N, ts.length = N := ⟨_, rfl⟩
  rw [hN] at b0 hpl
  have HN : Hid (ts.length = N) := hN
  clear hN hF hz C P hR hpos
  cases hP : pathF ts with
  | error p =>
    have e1 : oneM ts a = .error p := by simp [oneM, hP]
    rw [e1]
    rw [hP] at c1
    clear e1 hP hE
    go_enter Tryz.func73, Tryz.ntmps73
    go_wp2_with (first | (go_at_call 74; refine c1.mono ?_; rintro e w1 ⟨⟨b, rfl, g0, g1⟩, g2⟩))
    exact ⟨rfl, ⟨b, rfl, by omega, g1⟩, HC.out.kept.trans g2 (fun _ _ e => .inl e)⟩
  | ok v =>
    obtain ⟨p, q⟩ := v
    rw [hP] at c1
    cases q with
    | nil =>
      clear hP hE
      go_enter Tryz.func73, Tryz.ntmps73
      go_wp2_with (first | (go_at_call 74; refine c1.mono ?_; rintro e w1 ⟨v, rfl, _, _, _, g5, _⟩; exact absurd rfl g5.ne))
    | cons c q =>
      by_cases h11 : c.kind = 11
      · cases q with
        | nil =>
          clear hP hE
          go_enter Tryz.func73, Tryz.ntmps73
          go_wp2_with (first | (go_at_call 74; refine c1.mono ?_; rintro e w1 ⟨v, rfl, _, _, _, g5, _⟩; exact absurd rfl (g5.next (by omega)).ne))
        | cons m r =>
         by_cases h3 : m.kind = 3
         ·
          have e1 : oneM ts a = .ok (a ++ [(headAt ts, p, valL m.text)], r) := by simp [oneM, hP, h11, h3]
          rw [e1]
          clear e1 hP hE
          go_enter Tryz.func73, Tryz.ntmps73
          go_upto_region 3 with (first | (go_at_call 74; refine c1.mono ?_; rintro e w1 ⟨v, rfl, g1, g2, g3, g4, g5, g6⟩; obtain ⟨s0', s1', f1'⟩ := (HC.out.rd g3).cells; obtain ⟨ap, pc, rfl⟩ : ∃ ao cap, v = .slice ao p.length cap := row_shape g2) | (go_at_call 52; refine (take1_ok g1 11 (by omega)).mono ?_; rintro e w2 ⟨rfl, k1, k2⟩))
          have C1 := MovesA.step HC.out HP.out g3
          have C2 := MovesA.step C1.1 C1.2 k2
          have g2' := k2.row g2 (fun j e => by have := (own_ge g2 e).1; have := HC.out.lt; omega)
          have hE2 := g4.next (by omega)
          obtain ⟨r0, r1, rf⟩ := C2.1.cells
          have hsz := g3.size
          have hw2 : w0.heap.size ≤ w2.heap.size := C2.1.kept.size
          have HPR : Hid (∀ i (h' : i < pv.length) k, pv[i].ownBlock = some k → k < wc.heap.size) := fun i h' k e => (own_ge (HP.out.2 i (by rw [← HP.out.1]; exact h') h').1 e).2
          have HLO : Hid (∀ k, (Value.slice ao a.length cap).ownBlock = some k → k < wc.heap.size) := fun k e => (own_ge HC.out.row e).2
          clear c1 s0 s1 f1 b0 b1 s0' s1' f1' g1 g4 g2 C1
          have cN : Calls Tryz.prog 75 #[.pointer (some ⟨rb, 0, none⟩)] w2.drew fun e w6 => e = .returned (.int .i64 (valL m.text : Int)) ∧ RdAt w6 rb tb r ∧ Col 99 144 3 w0 rb tb rv vb a.length (mvCells a pv) w6 (.slice ao a.length cap) ∧ Kept (fun i => i = rb) w2 w6 := by
            have kd : Same0 w2 w2.drew := Kept.drew (Kept.refl _ w2)
            refine (number_ok (k1.same kd) hE2.ok h3).mono ?_
            rintro e w6 ⟨rfl, a1, a2⟩
            exact ⟨rfl, a1, (C2.1.same kd).rd a2, (Kept.mono kd (fun _ _ f => f.elim)).trans a2 (fun _ _ e => e)⟩
          have P3 : Hid (Paths w0.heap.size w2 (a ++ [(headAt ts, p, valL m.text)]) (pv ++ [.slice ap p.length pc]) (Value.slice ao a.length cap).ownBlock) := C2.2.more HPR.out hw0 HLO.out g2'
          have HG : Hid ((c :: m :: r).length < ts.length) := g5
          have HE3 : Hid (EndsT r) := hE2.next (by omega)
          have hlt := HC.out.lt
          have hCl := HC.out.row
          clear C2 g2' k1 k2 g5 g6 h3 h11
          go_region_law (first | (refine step_elem (by rfl) _ _ 99 144 _ 3 40 Tryz.underlying99 info_move (by rfl) (by omega) (by omega) (by rfl) w0.heap.size a.length (mvCells a pv) (.slice ao a.length cap) (by rfl) (World.ownsRow.alloc y1.row _) w6.heap.size #[.int .i64 (headAt ts : Int), .slice ap p.length pc, .int .i64 (valL m.text : Int)] (heap_alloc_new w6 _) rfl (by rfl) (by simp [Value.oneCell']) (by omega) (by have := y1.kept.size; simp only [World.size_alloc]; omega) ?_; intro g gcap w7 hr7 hk7 hat7; obtain ⟨C8, R8⟩ := y1.more y0 hr7 hk7 hat7; have f1'' := (frozenAt (hk7.behind.at y1.l0 (fun e => by have := (own_ge y1.row e).1; have := y1.lt; omega)) 0); have s1'' := (cellAt (hk7.behind.at y1.l0 (fun e => by have := (own_ge y1.row e).1; have := y1.lt; omega)) 0); simp only [List.getElem?_toArray, List.getElem?_cons_zero] at s1'') | (refine step_call rfl cN (by simp [go_sem]) (v := .int .i64 (valL m.text : Int)) ?_; rintro e w6 ⟨rfl, y0, y1, y2⟩; refine ⟨rfl, ?_⟩; obtain ⟨s0', s1', f1'⟩ := y1.cells; obtain ⟨s0b, s1b, f1b⟩ := (y1.same (Kept.alloc (Kept.refl _ w6) (.cells #[.int .i64 (headAt ts : Int), .slice ap p.length pc, .int .i64 (valL m.text : Int)] 144))).cells))
          all_goals
            go_wp2_with fail
            go_end0
            have hzz := HZ.out
            have hgg := HG.out
            simp only [List.length_cons] at hgg
            refine ⟨rfl, R8, ⟨.slice (some ⟨g, 0, none⟩) (a.length + 1) gcap, pv ++ [.slice ap p.length pc], ?_, ?_⟩, HE3.out, by omega, by simp; omega⟩
            · rw [mvCells_snoc _ _ _ _ HP.out.1, List.length_append]
              exact C8
            · have K1 : Kept (fun i => i = rb ∨ (Value.slice ao a.length cap).ownBlock = some i ∨ i = vb) w2 w7 := (Kept.mono y2 (fun _ _ e => .inl e)).trans hk7.behind (fun _ _ e => .inr (.inl e))
              have K2 := Kept.setCell (p := ⟨vb, 0, none⟩) K1 (fun _ => .inr (.inr rfl)) (.slice (some ⟨g, 0, none⟩) (a.length + 1) gcap)
              refine P3.out.kept K2 (fun k h1 h2 e => ?_) (fun k h1 e => ?_)
              · rcases e with e | e | e
                · omega
                · exact e
                · omega
              · simp only [Value.ownBlock, Option.some.injEq] at e
                subst e
                rcases hat7 with e | e
                · exact e
                · have := y2.size; simp only [World.size_alloc] at e; omega
         ·
          have e1 : oneM ts a = .error m.at' := by simp [oneM, hP, h11, h3]
          rw [e1]
          clear e1 hP hE
          go_enter Tryz.func73, Tryz.ntmps73
          go_upto_region 3 with (first | (go_at_call 74; refine c1.mono ?_; rintro e w1 ⟨v, rfl, g1, g2, g3, g4, g5, g6⟩; obtain ⟨s0', s1', f1'⟩ := (HC.out.rd g3).cells; obtain ⟨ap, pc, rfl⟩ : ∃ ao cap, v = .slice ao p.length cap := row_shape g2) | (go_at_call 52; refine (take1_ok g1 11 (by omega)).mono ?_; rintro e w2 ⟨rfl, k1, k2⟩))
          have C1 := MovesA.step HC.out HP.out g3
          have C2 := MovesA.step C1.1 C1.2 k2
          have g2' := k2.row g2 (fun j e => by have := (own_ge g2 e).1; have := HC.out.lt; omega)
          have hE2 := g4.next (by omega)
          obtain ⟨r0, r1, rf⟩ := C2.1.cells
          have hsz := g3.size
          have hw2 : w0.heap.size ≤ w2.heap.size := C2.1.kept.size
          have HPR : Hid (∀ i (h' : i < pv.length) k, pv[i].ownBlock = some k → k < wc.heap.size) := fun i h' k e => (own_ge (HP.out.2 i (by rw [← HP.out.1]; exact h') h').1 e).2
          have HLO : Hid (∀ k, (Value.slice ao a.length cap).ownBlock = some k → k < wc.heap.size) := fun k e => (own_ge HC.out.row e).2
          clear c1 s0 s1 f1 b0 b1 s0' s1' f1' g1 g4 g2 C1
          have cN : Calls Tryz.prog 75 #[.pointer (some ⟨rb, 0, none⟩)] w2.drew fun e w6 => GaveUp w0.heap.size w6 e 41 m.at' ∧ Kept (fun i => i = rb ∨ i = vb) w0 w6 := by
            have kd : Same0 w2 w2.drew := Kept.drew (Kept.refl _ w2)
            refine (number_bad (k1.same kd) h3).mono ?_
            rintro e w6 ⟨a1, a2⟩
            exact ⟨a1.mono hw2, C2.1.kept.trans (kd.trans' a2) (fun _ _ f => f.elim)⟩
          refine wp_region_held (S := fun w' => w'.cell? ⟨rv, 0, none⟩ = some (.pointer (some ⟨rb, 0, none⟩)) ∧ w'.cell? ⟨vb, 0, none⟩ = some (.slice ao a.length cap)) (by kernel_rfl) ?_
          refine wpAnyH_take (i := 0) (v := .slice ao a.length cap) rfl (by kernel_rfl) (by kernel_rfl) (by kernel_rfl) (fun _ _ _ h => h) (.inl ⟨rfl, fun w' hS => ?_⟩) ⟨r0, r1⟩ ?_
          · simp [go_sem, hS.2]
          refine wpAnyH_take (i := 1) (v := .int .i64 (headAt ts : Int)) rfl (by kernel_rfl) (by kernel_rfl) (by kernel_rfl) (fun _ _ _ h => h) (.inl ⟨rfl, fun w' hS => by simp [go_sem]⟩) ⟨r0, r1⟩ ?_
          refine wpAnyH_take (i := 2) (v := .slice ap p.length pc) rfl (by kernel_rfl) (by kernel_rfl) (by kernel_rfl) (fun _ _ _ h => h) (.inl ⟨rfl, fun w' hS => by simp [go_sem]⟩) ⟨r0, r1⟩ ?_
          refine wpAnyH_take (i := 3) (v := .pointer (some ⟨rb, 0, none⟩)) rfl (by kernel_rfl) (by kernel_rfl) (by kernel_rfl) (fun _ _ _ h => h) (.inl ⟨rfl, fun w' hS => ?_⟩) ⟨r0, r1⟩ ?_
          · simp [go_sem, hS.1]
          refine wpAnyH_all (rs := [4]) (by kernel_rfl) (by simp) (fun i hi => ?_)
          obtain rfl := List.mem_singleton.1 hi
          simp [wpOp, go_sem]
          refine .inl (cN.mono ?_)
          rintro e w6 ⟨⟨b, rfl, x0, x1⟩, x6⟩
          exact ⟨rfl, ⟨b, rfl, x0, x1⟩, x6⟩
      · have e1 : oneM ts a = .error c.at' := by cases q <;> simp [oneM, hP, h11]
        rw [e1]
        clear e1 hP hE
        go_enter Tryz.func73, Tryz.ntmps73
        go_wp2_with (first | (go_at_call 74; refine c1.mono ?_; rintro e w1 ⟨v, rfl, g1, g2, g3, g4, _⟩; obtain ⟨s0', s1', f1'⟩ := (HC.out.rd g3).cells) | (go_at_call 52; refine (take1_bad g1 11 (by omega)).mono ?_; rintro e w2 ⟨⟨b, rfl, k0, k1⟩, k2⟩))
        exact ⟨rfl, ⟨b, rfl, by have := g3.size; omega, k1⟩, (HC.out.rd g3).kept.trans k2 (fun _ _ e => e.elim)⟩
end Go.Proofs.YtbjfpfnfbgncnaaGreatDoor
/- The walk of the reader's moves. -/
namespace Go.Proofs.YtbjfpfnfbgncnaaGreatDoor
open Go.RowKit
set_option linter.unusedVariables false
set_option maxRecDepth 100000
/-- Nothing, or moves. -/
def listM (ts : List Tok) : Except Nat (List Mv × List Tok) := match ts with
  | [] => .error 0
  | t :: r => if t.kind = 13 then .ok ([], t :: r) else movesF (t :: r).length (t :: r)
def MovesCame (rb tb : Nat) (w : World) (R : Except Nat (List Mv × List Tok)) (e : Ending) (w' : World) : Prop := match R with
  | .ok (a, r) => ∃ v pv, e = .returned v ∧ RdAt w' rb tb r ∧ w'.ownsRow w.heap.size 144 3 v a.length (mvCells a pv) ∧ Paths w.heap.size w' a pv v.ownBlock ∧ Kept (fun i => i = rb) w w' ∧ EndsT r ∧ a.length ≤ 50000
  | .error p => GaveUp w.heap.size w' e 41 p ∧ Kept (fun i => i = rb) w w'
set_option maxHeartbeats 2000000 in
theorem moves_any {w : World} {rb tb : Nat} {ts : List Tok} (hE : EndsT ts) (hR : RdAt w rb tb ts) (hz : ts.length ≤ 50000) : Calls Tryz.prog 45 #[.pointer (some ⟨rb, 0, none⟩)] w (MovesCame rb tb w (listM ts)) := by
  cases ts with
  | nil => exact absurd rfl hE.ne
  | cons t r =>
    have hlt := hR.lt
    have hmf : ∀ (fn : Fn) (first cap : Array Value) (w : World), (Instr.makeFunc fn first cap).run Tryz.prog w = .ok (.func fn first cap) w := fun _ _ _ _ => rfl
    have c2 : Calls Tryz.prog 59 #[.pointer (some ⟨rb, 0, none⟩), .int .i64 6, .func (.func 73) #[] #[.pointer (some ⟨w.heap.size, 0, none⟩), .pointer (some ⟨w.heap.size + 1, 0, none⟩)]] ((w.alloc (.cells #[.pointer (some ⟨rb, 0, none⟩)] 59)).alloc (.cells #[.slice none 0 0] 99)) fun e w2 => match listM (t :: r) with
        | .ok (a, q) => e = .returned (.tuple #[]) ∧ ∃ lv, w2.cell? ⟨w.heap.size + 1, 0, none⟩ = some lv ∧ Hid (∃ pv, RdAt w2 rb tb q ∧ w2.ownsRow w.heap.size 144 3 lv a.length (mvCells a pv) ∧ Paths w.heap.size w2 a pv lv.ownBlock ∧ Kept (fun i => i = rb) w w2 ∧ EndsT q ∧ a.length ≤ 50000)
        | .error p => GaveUp w.heap.size w2 e 41 p ∧ Kept (fun i => i = rb) w w2 := by
      obtain ⟨w0, hw0⟩ : ∃ w0, ((w.alloc (.cells #[.pointer (some ⟨rb, 0, none⟩)] 59)).alloc (.cells #[.slice none 0 0] 99)) = w0 := ⟨_, rfl⟩
      have hsz : w0.heap.size = w.heap.size + 2 := by rw [← hw0]; simp only [World.size_alloc]
      have K0 : Same0 w w0 := by rw [← hw0]; exact Kept.alloc (Kept.alloc (Kept.refl _ w) _) _
      have C0 : Col 99 144 3 w0 rb tb w.heap.size (w.heap.size + 1) 0 (mvCells [] []) w0 (.slice none 0 0) := by
        refine ⟨?_, ?_, ⟨rfl, .inl ⟨rfl, rfl⟩⟩, Kept.refl _ _, ⟨by omega, by omega, by omega, by omega⟩, ⟨by omega, by omega, by omega, by omega, by omega⟩⟩
        · rw [← hw0]; exact Kept.at (Kept.alloc (Kept.refl (fun _ => False) _) _) (heap_alloc_new w _) (fun f => f)
        · rw [← hw0]; exact alloc_at1 w _ _
      rw [hw0]
      by_cases h13 : t.kind = 13
      · refine (list_end (hR.same K0) h13 _ _).mono ?_
        rintro e w' ⟨rfl, rfl⟩
        rw [show listM (t :: r) = .ok ([], t :: r) by simp [listM, h13]]
        exact ⟨rfl, _, C0.cells.2.1, [], hR.same K0, row_mono C0.row (by omega), ⟨rfl, fun i h => by simp at h⟩, Kept.mono K0 (fun _ _ f => f.elim), hE, by simp⟩
      · have c := row_any (sign := 6) (F := (t :: r).length) (a := ([] : List Mv)) (enters_of Tryz.func73 (by kernel_rfl) rfl) (moves1_reads (w0 := w0) (rb := rb) (tb := tb) (rv := w.heap.size) (vb := w.heap.size + 1) (B := (t :: r).length) hz) (fun a x y ⟨lv, pv, p⟩ k => ⟨lv, pv, MovesA.step p.1 p.2 k⟩) (by omega) r.length (by simp) hE (Nat.le_refl _) (by simp) (hR.same K0) ⟨_, [], C0, rfl, fun i h => by simp at h⟩
        rw [row_moves] at c
        have hup : ∀ {w2 : World}, Kept (fun i => i = rb ∨ i = w.heap.size + 1) w0 w2 → Kept (fun i => i = rb) w w2 := fun k => (Kept.mono K0 (fun _ _ f => f.elim)).trans k (fun i hi e => e.elim id (fun e => by omega))
        refine (list_row (hR.same K0) h13 _ _ c).mono ?_
        intro e w2 h
        simp only [listM, h13, if_false]
        simp only [List.length_cons]
        cases hX : movesF (r.length + 1) (t :: r) with
        | error p =>
          rw [hX] at h
          exact ⟨h.1.mono (by omega), hup h.2⟩
        | ok v =>
          obtain ⟨p, q⟩ := v
          rw [hX] at h
          obtain ⟨rfl, h1, ⟨lv, pv, C2, P2⟩, h3, h4, h5⟩ := h
          simp only [List.nil_append] at C2 P2 h5
          refine ⟨rfl, lv, C2.cells.2.1, pv, h1, row_mono C2.row (by omega), ⟨P2.1, fun i h h' => ⟨row_mono (P2.2 i h h').1 (by omega), (P2.2 i h h').2⟩⟩, hup C2.kept, h3, by omega⟩
    clear hE hR hlt
    cases hX : listM (t :: r) with
    | error p =>
      rw [hX] at c2
      clear hX
      go_enter Tryz.func45, Tryz.ntmps45
      go_wp2_with (first | (go_at_call 59; refine c2.mono ?_; rintro e w2 ⟨⟨b, rfl, g0, g1⟩, k6⟩))
      exact ⟨rfl, ⟨b, rfl, g0, g1⟩, k6⟩
    | ok v =>
      obtain ⟨p, q⟩ := v
      rw [hX] at c2
      clear hX
      go_enter Tryz.func45, Tryz.ntmps45
      go_wp2_with (first | (go_at_call 59; refine c2.mono ?_; rintro e w2 ⟨rfl, lv, s1, HP⟩))
      go_ret
      obtain ⟨pv, p1, p2, p3, p4, p5, p6⟩ := HP.out
      exact ⟨_, pv, rfl, p1, p2, p3, p4, p5, p6⟩
end Go.Proofs.YtbjfpfnfbgncnaaGreatDoor
/- The walk of the moves that were read. -/
namespace Go.Proofs.YtbjfpfnfbgncnaaGreatDoor
open Go.RowKit
set_option linter.unusedVariables false
set_option maxRecDepth 100000
theorem mvCells_length : ∀ (a : List Mv) (pv : List Value), pv.length = a.length → (mvCells a pv).length = a.length * 3 := by
  intro a
  induction a with
  | nil => intro pv h; simp [mvCells]
  | cons x a ih =>
    intro pv h
    cases pv with
    | nil => simp at h
    | cons v pv => simp only [mvCells, List.length_cons]; rw [ih pv (by simpa using h)]; omega
theorem mvCells_at : ∀ (a : List Mv) (pv : List Value) (i : Nat) (h : i < a.length) (h' : i < pv.length), (mvCells a pv)[i * 3]? = some (.int .i64 (a[i].1 : Int)) ∧ (mvCells a pv)[i * 3 + 1]? = some pv[i] ∧ (mvCells a pv)[i * 3 + 2]? = some (.int .i64 (a[i].2.2 : Int)) := by
  intro a
  induction a with
  | nil => intro pv i h; simp at h
  | cons x a ih =>
    intro pv i h h'
    cases pv with
    | nil => simp at h'
    | cons v pv =>
      cases i with
      | zero => simp [mvCells]
      | succ j =>
        obtain ⟨e1, e2, e3⟩ := ih pv j (by simpa using h) (by simpa using h')
        simp only [mvCells, List.getElem_cons_succ]
        refine ⟨?_, ?_, ?_⟩
        · rw [show (j + 1) * 3 = j * 3 + 1 + 1 + 1 by omega]; simpa using e1
        · rw [show (j + 1) * 3 + 1 = (j * 3 + 1) + 1 + 1 + 1 by omega]; simpa using e2
        · rw [show (j + 1) * 3 + 2 = (j * 3 + 2) + 1 + 1 + 1 by omega]; simpa using e3
/-- The cells of moves that are told. -/
def mv2Cells : List Mv → List Value → List Value
  | x :: a, v :: pv => v :: .int .i64 (x.2.2 : Int) :: mv2Cells a pv
  | _, _ => []
theorem mv2_take : ∀ (a : List Mv) (pv : List Value) (k : Nat) (h : k < a.length) (h' : k < pv.length), mv2Cells (a.take (k + 1)) (pv.take (k + 1)) = mv2Cells (a.take k) (pv.take k) ++ [pv[k], .int .i64 (a[k].2.2 : Int)] := by
  intro a
  induction a with
  | nil => intro pv k h; simp at h
  | cons x a ih =>
    intro pv k h h'
    cases pv with
    | nil => simp at h'
    | cons v pv =>
      cases k with
      | zero => simp [mv2Cells]
      | succ k =>
        have := ih pv k (by simpa using h) (by simpa using h')
        simp only [List.take_succ_cons, mv2Cells, List.getElem_cons_succ, List.cons_append]
        rw [this]
theorem info_apimove : (Tryz.prog.info? 142).map (fun i => (i.zero, i.size, i.bytes)) = some (some (.agg #[.slice none 0 0, .int .i64 0]), 2, 32) := by kernel_rfl
set_option maxHeartbeats 2000000 in
theorem movesM_many {w : World} {base : Nat} {a : List Mv} {pv : List Value} {ao : Option Addr} {cap : Nat} (h : w.ownsRow base 144 3 (.slice ao a.length cap) a.length (mvCells a pv)) (hp : pv.length = a.length) (hm : 1000 < a.length) (hs : a.length ≤ 50000) :
    Calls Tryz.prog 46 #[.slice ao a.length cap] w fun e w' => GaveUp w.heap.size w' e 42 a[1000].1 ∧ Same0 w w' := by
  obtain ⟨g, cap', hv, hb, hlt⟩ := h.form (by omega)
  obtain ⟨rfl, _, rfl⟩ : ao = some ⟨g, 0, none⟩ ∧ a.length = a.length ∧ cap = cap' := by simpa using hv
  have hc := h.cellAt (1000 * 3) (by omega)
  rw [(mvCells_at a pv 1000 hm (by omega)).1] at hc
  obtain ⟨p, hpp⟩ : ∃ p, p = a[1000].1 := ⟨_, rfl⟩
  rw [← hpp] at hc ⊢
  have hm2 : (1000 : Int) < (a.length : Int) := by omega
  clear h hv hpp
  go_enter Tryz.func46, Tryz.ntmps46
  go_wp2_with (first | (go_at_call 49; refine (giveUp_any _ _ _).mono ?_; rintro e w' ⟨rfl, rfl⟩))
  exact ⟨rfl, ⟨_, rfl, Nat.le_refl _, heap_alloc_new _ _⟩, Kept.alloc (Kept.refl _ w) _⟩
set_option maxHeartbeats 4000000 in
theorem movesM_few {w : World} {base : Nat} {a : List Mv} {pv : List Value} {ao : Option Addr} {cap : Nat} (h : w.ownsRow base 144 3 (.slice ao a.length cap) a.length (mvCells a pv)) (hp : pv.length = a.length) (hm : a.length ≤ 1000) (hsl : ∀ i (h : i < pv.length), ∃ ao n c, pv[i] = .slice ao n c) :
    Calls Tryz.prog 46 #[.slice ao a.length cap] w fun e w' => ∃ g, e = .returned (.slice (some ⟨g, 0, none⟩) a.length a.length) ∧ w'.ownsRow w.heap.size 142 2 (.slice (some ⟨g, 0, none⟩) a.length a.length) a.length (mv2Cells a pv) ∧ Same0 w w' := by
  obtain ⟨i, hi, hz0, hz1, hz2⟩ := info_of info_apimove
  have hm2 : ¬ ((1000 : Int) < (a.length : Int)) := by omega
  have HH : Hid (w.ownsRow base 144 3 (.slice ao a.length cap) a.length (mvCells a pv)) := h
  clear h
  go_enter Tryz.func46, Tryz.ntmps46
  go_wp2_with (first | (at_make; refine wpList_make_full _ rfl _ _ 51 rfl w.heap.size 142 i _ 2 Tryz.underlying51 hi hz0 hz1 _ _ _ _ a.length rfl rfl rfl rfl (by rw [hz2]; omega) (by unfold maxLen; omega) (Nat.le_refl _) ?_; intro w3 hown hgrow))
  have HK : Hid (Same0 w w3) := Kept.grown (Kept.refl _ w) hgrow (fun _ e _ => by cases e)
  have HF : Hid (FilledC w3 w.heap.size 142 (a.length * 2) 0 []) := FilledC.start hown
  clear hown hgrow
  go_loopw [19] (fun x wr => ∃ k : Nat, x = .int .i64 (k : Int) ∧ k ≤ a.length ∧ FilledC wr w.heap.size 142 (a.length * 2) (k * 2) (mv2Cells (a.take k) (pv.take k)) ∧ Kept (fun j => j = w.heap.size) w3 wr) (fun x _ => a.length - (intOf x).toNat)
  case atStart => exact ⟨0, rfl, Nat.zero_le _, HF.out, Kept.refl _ _⟩
  case round =>
    obtain ⟨k, rfl, hk, hF, hK⟩ := hrel
    by_cases hlt : k < a.length
    · have hr := hK.row (HK.out.row HH.out (fun _ _ f => f)) (fun j e => by have := (own_ge HH.out e).2; omega)
      obtain ⟨sg, cap', hv, hsb, hsl2⟩ := hr.form (by omega)
      obtain ⟨rfl, _, rfl⟩ : ao = some ⟨sg, 0, none⟩ ∧ a.length = a.length ∧ cap = cap' := by simpa using hv
      obtain ⟨m0, m1, m2⟩ := mvCells_at a pv k hlt (by omega)
      have q0 := hr.cellAt (k * 3) (by omega)
      have q1 := hr.cellAt (k * 3 + 1) (by omega)
      have q2 := hr.cellAt (k * 3 + 2) (by omega)
      rw [m0] at q0; rw [m1] at q1; rw [m2] at q2
      obtain ⟨pao, pn, pc, hpk⟩ := hsl k (by omega)
      rw [hpk] at q1
      obtain ⟨⟨u0, t0⟩, z0⟩ := hF.cell (j := k * 2) (by omega)
      obtain ⟨⟨u1, t1⟩, z1⟩ := hF.cell (j := k * 2 + 1) (by omega)
      have e1 := mv2_take a pv k hlt (by omega)
      rw [hpk] at e1
      obtain ⟨ru, hru⟩ : ∃ ru, ru = a[k].2.2 := ⟨_, rfl⟩
      obtain ⟨pl, hpl⟩ : ∃ pl, pl = a[k].1 := ⟨_, rfl⟩
      rw [← hru] at q2 e1
      rw [← hpl] at q0
      have HE : Hid (mv2Cells (a.take (k + 1)) (pv.take (k + 1)) = mv2Cells (a.take k) (pv.take k) ++ [.slice pao pn pc, .int .i64 (ru : Int)]) := e1
      have HF2 : Hid (FilledC wr w.heap.size 142 (a.length * 2) (k * 2) (mv2Cells (a.take k) (pv.take k))) := hF
      have HK2 : Hid (Kept (fun j => j = w.heap.size) w3 wr) := hK
      have d1 : (k : Int) < (a.length : Int) := by omega
      have hsg : sg ≠ w.heap.size := by have := (own_ge HH.out (k := sg) rfl).2; omega
      have hwl : w.heap.size < wr.heap.size := by obtain ⟨cur, h1, _⟩ := hF; exact lt_of_at h1
      clear hF hK hru hpl m0 m1 m2 hr hv hpk e1
      go_wp2_with fail
      have hP2 := ((HF2.out.put (by omega) (.slice pao pn pc)).put (by omega) (.int .i64 (ru : Int))).kept (Kept.alloc (Kept.refl (fun _ => False) _) (.cells #[.int .i64 (pl : Int), .slice pao pn pc, .int .i64 (ru : Int)] 144)) (fun f => f)
      rw [List.append_assoc] at hP2
      refine ⟨⟨k + 1, by go_num, by omega, ?_, ?_⟩, by simp [intOf]; omega⟩
      · rw [show (k + 1) * 2 = k * 2 + 1 + 1 by omega, HE.out]
        exact hP2
      · exact Kept.alloc (Kept.setCell (p := ⟨w.heap.size, k * 2 + 1, none⟩) (Kept.setCell (p := ⟨w.heap.size, k * 2, none⟩) HK2.out (fun _ => rfl) _) (fun _ => rfl) _) _
    · obtain rfl : k = a.length := by omega
      have d1 : ¬ ((a.length : Int) < (a.length : Int)) := by omega
      have hD : Hid (wr.ownsRow w.heap.size 142 2 (.slice (some ⟨w.heap.size, 0, none⟩) a.length a.length) a.length (mv2Cells a pv)) := by
        rw [List.take_length, ← hp, List.take_length, hp] at hF
        exact hF.done (Nat.le_refl _) (by unfold maxLen; omega)
      have HK2 : Hid (Kept (fun j => j = w.heap.size) w3 wr) := hK
      clear hF hK
      go_wp2_with fail
      go_ret
      exact ⟨_, rfl, hD.out, HK.out.trans HK2.out (fun j hj e => by omega)⟩
end Go.Proofs.YtbjfpfnfbgncnaaGreatDoor
