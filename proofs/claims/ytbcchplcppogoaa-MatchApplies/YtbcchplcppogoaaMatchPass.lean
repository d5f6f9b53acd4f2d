/- The walk of the function value with which package match goes along a term. -/
import Derived.Test.YtbcchplcppogoaaMatchSize
namespace Go.Proofs.Ytbcchplcppogoaa
set_option maxRecDepth 100000
set_option linter.unusedVariables false
open Go.RowKit
attribute [local go_sem ↓] Go.wp_at_zero Go.wp_at_succ
/-- What the function value has: the place, the term, the signature, the table. -/
structure PassAt (N : Nat) (w : World) (aB tB sB A b : Nat) (L : List Sym) (ao : Option Addr) (cap : Nat) (u : List Int) (k : Nat) (σ : Tb) : Prop where
  a0 : w.heap[aB]? = some (.cells #[.int .i64 (k : Int)] 3 (0, 0))
  t0 : w.heap[tB]? = some (.cells #[.slice ao u.length cap] 25 (0, 0))
  s0 : w.heap[sB]? = some (.cells #[.pointer (some ⟨b, 0, none⟩)] 29 (0, 0))
  tab : TabAt N w A σ
  ints : IntsAt w ao u
  ub : ∀ a, ao = some a → a.block < N
  uc : u.length ≤ cap
  um : u.length ≤ 2000
  sg : Sg N w b L
  ne : N ≤ aB ∧ N ≤ tB ∧ N ≤ sB ∧ N ≤ A ∧ aB ≠ tB ∧ aB ≠ sB ∧ aB ≠ A ∧ tB ≠ A ∧ sB ≠ A
theorem PassAt.same {N : Nat} {w w' : World} {aB tB sB A b : Nat} {L : List Sym} {ao : Option Addr} {cap : Nat} {u : List Int} {k : Nat} {σ : Tb} (h : PassAt N w aB tB sB A b L ao cap u k σ) (hk : Same0 w w') : PassAt N w' aB tB sB A b L ao cap u k σ :=
  ⟨hk.at0 h.a0, hk.at0 h.t0, hk.at0 h.s0, h.tab.same hk, h.ints.same hk, h.ub, h.uc, h.um, h.sg.same hk, h.ne⟩
theorem PassAt.cells {N : Nat} {w : World} {aB tB sB A b : Nat} {L : List Sym} {ao : Option Addr} {cap : Nat} {u : List Int} {k : Nat} {σ : Tb} (h : PassAt N w aB tB sB A b L ao cap u k σ) :
    w.cell? ⟨aB, 0, none⟩ = some (.int .i64 (k : Int)) ∧ w.frozen? ⟨aB, 0, none⟩ = false ∧ w.cell? ⟨tB, 0, none⟩ = some (.slice ao u.length cap) ∧ w.cell? ⟨sB, 0, none⟩ = some (.pointer (some ⟨b, 0, none⟩)) :=
  ⟨cellAt h.a0 0, frozenAt h.a0 0, cellAt h.t0 0, cellAt h.s0 0⟩
/-- The place goes on. -/
theorem PassAt.go {N : Nat} {w : World} {aB tB sB A b : Nat} {L : List Sym} {ao : Option Addr} {cap : Nat} {u : List Int} {k : Nat} {σ : Tb} (h : PassAt N w aB tB sB A b L ao cap u k σ) (k' : Nat) : PassAt N (w.setCell ⟨aB, 0, none⟩ (.int .i64 (k' : Int))) aB tB sB A b L ao cap u k' σ := by
  have hk : Kept (fun i => i = aB) w (w.setCell ⟨aB, 0, none⟩ (.int .i64 (k' : Int))) := Kept.setCell (p := ⟨aB, 0, none⟩) (Kept.refl (fun i => i = aB) w) (fun _ => rfl) _
  obtain ⟨n1, n2, n3, n4, n5, n6, n7, n8, n9⟩ := h.ne
  have hlo : ∀ i, i < N → ¬ i = aB := fun i hi e => by omega
  exact ⟨by rw [setAt h.a0]; rfl, hk.at h.t0 (fun e => n5 e.symm), hk.at h.s0 (fun e => n6 e.symm), h.tab.kept hk hlo (fun e => n7 e.symm), h.ints.kept hk (fun a e => hlo _ (h.ub a e)), h.ub, h.uc, h.um, h.sg.kept hk hlo, h.ne⟩
/-- One more stands in the table. -/
theorem PassAt.put {N : Nat} {w : World} {aB tB sB A b : Nat} {L : List Sym} {ao : Option Addr} {cap : Nat} {u : List Int} {k : Nat} {σ : Tb} (h : PassAt N w aB tB sB A b L ao cap u k σ) {v : Nat} (hv : v < 100) {x : List Int} {a : Addr} {c : Nat} (hu : IntsAt w (some a) x) (hc : x.length ≤ c) (hn : x ≠ []) (ha : a.block < N) :
    PassAt N (w.setCell ⟨A, v, none⟩ (.slice (some a) x.length c)) aB tB sB A b L ao cap u k (updT σ v x) := by
  have hk : Kept (fun i => i = A) w (w.setCell ⟨A, v, none⟩ (.slice (some a) x.length c)) := Kept.setCell (p := ⟨A, v, none⟩) (Kept.refl (fun i => i = A) w) (fun _ => rfl) _
  obtain ⟨n1, n2, n3, n4, n5, n6, n7, n8, n9⟩ := h.ne
  have hlo : ∀ i, i < N → ¬ i = A := fun i hi e => by omega
  exact ⟨hk.at h.a0 n7, hk.at h.t0 n8, hk.at h.s0 n9, h.tab.put n4 hv hu hc hn ha, h.ints.kept hk (fun a e => hlo _ (h.ub a e)), h.ub, h.uc, h.um, h.sg.kept hk hlo, h.ne⟩
theorem Kept.two {a A : Nat} {w w1 : World} (h : Kept (fun i => i = a) w w1) : Kept (fun i => i = a ∨ i = A) w w1 := h.mono (fun _ _ e => .inl e)
set_option maxHeartbeats 2000000 in
theorem pass_sym {N : Nat} {w : World} {aB tB sB A b : Nat} {L : List Sym} {ao : Option Addr} {cap : Nat} {u : List Int} {k : Nat} {σ : Tb} (h : PassAt N w aB tB sB A b L ao cap u k σ) (n : Int) (hn : 0 ≤ n) (hk : k < u.length) :
    Calls Try.prog 53 #[.int .i64 n, .pointer (some ⟨aB, 0, none⟩), .pointer (some ⟨tB, 0, none⟩), .pointer (some ⟨sB, 0, none⟩), .pointer (some ⟨A, 0, none⟩)] w fun e w' => e = .returned (.bool (decide (u[k] = n))) ∧ PassAt N w' aB tB sB A b L ao cap u (k + 1) σ ∧ Kept (fun i => i = aB ∨ i = A) w w' := by
  obtain ⟨c1, c2, c3, c4⟩ := h.cells
  have h1 := h.go (k + 1)
  obtain ⟨d1, d2, d3, d4⟩ := h1.cells
  obtain ⟨tb, off, rfl, htb, hc⟩ := h1.ints.get hk
  have hm := h.um
  have i1 : (0 : Int) ≤ (k : Int) := by omega
  have i2 : (k : Int) < (u.length : Int) := by omega
  have e1 : ((k + 1 : Nat) : Int) = (k : Int) + 1 := by omega
  rw [e1] at d1 d2 d3 d4 hc
  have hk1 : Hid (Kept (fun i => i = aB ∨ i = A) w (w.setCell ⟨aB, 0, none⟩ (.int .i64 ((k : Int) + 1)))) := (Kept.setCell (p := ⟨aB, 0, none⟩) (Kept.refl (fun i => i = aB) w) (fun _ => rfl) _).two
  have H1 : Hid (PassAt N (w.setCell ⟨aB, 0, none⟩ (.int .i64 ((k : Int) + 1))) aB tB sB A b L (some ⟨tb, off, none⟩) cap u (k + 1) σ) := by rw [e1] at h1; exact h1
  clear h h1 e1
  go_enter Try.func53, Try.ntmps53
  go_wp2
  go_ret
  exact ⟨by congr 1, H1.out, hk1.out⟩
theorem scan_end {L : List Sym} {u : List Int} {k m : Nat} (h : scan L 1 (u.drop k) = some m) (hk : k ≤ u.length) : 0 < m ∧ k + m ≤ u.length ∧ headT L (u.drop k) = (u.take (k + m)).drop k ∧ ((u.take (k + m)).drop k).length = m := by
  have h1 := scan_pos (k := 0) h
  have h2 := (scan_need h).1
  rw [List.length_drop] at h2
  refine ⟨h1, by omega, ?_, by rw [List.length_drop, List.length_take]; omega⟩
  rw [headT, h, List.drop_take, Option.getD_some, show k + m - k = m by omega]
set_option maxHeartbeats 4000000 in
theorem pass_new {N : Nat} {w : World} {aB tB sB A b : Nat} {L : List Sym} {ao : Option Addr} {cap : Nat} {u : List Int} {k m v : Nat} {σ : Tb} (h : PassAt N w aB tB sB A b L ao cap u k σ) (h1v : 1 ≤ v) (hv : v ≤ 99) (hk : k ≤ u.length) (hs : scan L 1 (u.drop k) = some m) (hσ : σ v = []) :
    Calls Try.prog 53 #[.int .i64 (-(v : Int)), .pointer (some ⟨aB, 0, none⟩), .pointer (some ⟨tB, 0, none⟩), .pointer (some ⟨sB, 0, none⟩), .pointer (some ⟨A, 0, none⟩)] w fun e w' => e = .returned (.bool true) ∧ PassAt N w' aB tB sB A b L ao cap u (k + m) (updT σ v (headT L (u.drop k))) ∧ Kept (fun i => i = aB ∨ i = A) w w' := by
  obtain ⟨c1, c2, c3, c4⟩ := h.cells
  obtain ⟨m1, m2, m3, m4⟩ := scan_end hs hk
  have cb := behind_any (cap := cap) h.sg h.ints h.um hk hs
  obtain ⟨E, hE⟩ : ∃ E, E = k + m := ⟨_, rfl⟩
  rw [← hE] at cb m2 m3 m4 ⊢
  obtain ⟨tb, off, rfl, htb, hc⟩ := h.ints.get (i := k) (by omega)
  have hub := h.ub _ rfl
  have hcap := h.uc
  have hum := h.um
  have hne := h.ne
  have hx : ((u.take E).drop k) ≠ [] := by intro e; rw [e] at m4; simp at m4; omega
  have hlen : ((u.take E).drop k).length = E - k := by omega
  have W1 : Hid (∀ w1, Same0 w w1 → PassAt N (w1.setCell ⟨aB, 0, none⟩ (.int .i64 (E : Int))) aB tB sB A b L (some ⟨tb, off, none⟩) cap u E σ) := fun w1 hk1 => (h.same hk1).go E
  have W2 : Hid (∀ w1, Same0 w w1 → PassAt N ((w1.setCell ⟨aB, 0, none⟩ (.int .i64 (E : Int))).setCell ⟨A, v, none⟩ (.slice (some ⟨tb, off + k, none⟩) (E - k) (cap - k))) aB tB sB A b L (some ⟨tb, off, none⟩) cap u E (updT σ v ((u.take E).drop k))) := fun w1 hk1 => by
    have q := (h.same hk1).go E
    have := q.put (v := v) (by omega) (q.ints.cut k E) (c := cap - k) (by omega) hx hub
    rwa [hlen] at this
  have WK : Hid (∀ w1, Same0 w w1 → Kept (fun i => i = aB ∨ i = A) w ((w1.setCell ⟨aB, 0, none⟩ (.int .i64 (E : Int))).setCell ⟨A, v, none⟩ (.slice (some ⟨tb, off + k, none⟩) (E - k) (cap - k)))) := fun w1 hk1 =>
    ((hk1.mono (S' := fun i => i = aB ∨ i = A) (fun _ _ f => f.elim)).setCell (p := ⟨aB, 0, none⟩) (fun _ => .inl rfl) _).setCell (p := ⟨A, v, none⟩) (fun _ => .inr rfl) _
  have WW : Hid (∀ w1, Same0 w w1 → (w1.setCell ⟨aB, 0, none⟩ (.int .i64 (E : Int))).cell? ⟨aB, 0, none⟩ = some (.int .i64 (E : Int)) ∧ w1.cell? ⟨aB, 0, none⟩ = some (.int .i64 (k : Int)) ∧ w1.frozen? ⟨aB, 0, none⟩ = false ∧ (w1.setCell ⟨aB, 0, none⟩ (.int .i64 (E : Int))).cell? ⟨tB, 0, none⟩ = some (.slice (some ⟨tb, off, none⟩) u.length cap) ∧ (w1.setCell ⟨aB, 0, none⟩ (.int .i64 (E : Int))).cell? ⟨A, v, none⟩ = some (.slice none 0 0) ∧ (w1.setCell ⟨aB, 0, none⟩ (.int .i64 (E : Int))).frozen? ⟨A, v, none⟩ = false ∧
      ((w1.setCell ⟨aB, 0, none⟩ (.int .i64 (E : Int))).setCell ⟨A, v, none⟩ (.slice (some ⟨tb, off + k, none⟩) (E - k) (cap - k))).cell? ⟨A, v, none⟩ = some (.slice (some ⟨tb, off + k, none⟩) (E - k) (cap - k)) ∧
      Calls Try.prog 40 #[.slice (some ⟨tb, off + k, none⟩) (E - k) (cap - k), .slice (some ⟨tb, off + k, none⟩) (E - k) (cap - k)] ((w1.setCell ⟨aB, 0, none⟩ (.int .i64 (E : Int))).setCell ⟨A, v, none⟩ (.slice (some ⟨tb, off + k, none⟩) (E - k) (cap - k))) fun e w' => e = .returned (.bool true) ∧ Same0 ((w1.setCell ⟨aB, 0, none⟩ (.int .i64 (E : Int))).setCell ⟨A, v, none⟩ (.slice (some ⟨tb, off + k, none⟩) (E - k) (cap - k))) w') := fun w1 hk1 => by
    have p0 := (h.same hk1).cells
    have p1 := W1.out w1 hk1
    have p2 := W2.out w1 hk1
    obtain ⟨xo, xc, g1, g2, _, _, g3⟩ := p1.tab.cell (v := v) (by omega)
    obtain ⟨rfl, rfl⟩ := g3 hσ
    rw [hσ] at g1
    have q := p2.ints.cut k E
    have ce := equal_any (acap := cap - k) (bcap := cap - k) q q (by rw [hlen]; unfold maxLen; omega)
    rw [hlen] at ce
    simp only [sameB, decide_true] at ce
    obtain ⟨cs, y1, y2, y3⟩ := p1.tab
    refine ⟨p1.cells.1, p0.1, p0.2.1, p1.cells.2.2.1, g1, g2, ?_, ce⟩
    rw [cellAt (setAt y1 v _) v, Array.getElem?_setIfInBounds, if_pos rfl, if_pos (by omega)]
  have HX : Hid (headT L (u.drop k) = (u.take E).drop k) := m3
  have i1 : (0 : Int) ≤ (k : Int) := by omega
  have i2 : (k : Int) ≤ (E : Int) := by omega
  have i3 : (E : Int) ≤ (cap : Int) := by omega
  have i4 : ¬ cap = k := by omega
  have i5 : (0 : Int) ≤ (v : Int) := by omega
  have i6 : (v : Int) < 100 := by omega
  have i7 : - -(v : Int) = (v : Int) := by omega
  have i8 : ¬ v = 0 := by omega
  have hnil := eqnil
  have HL : Hid (((u.take E).drop k).length = E - k) := hlen
  have HS : Hid (σ v = []) := hσ
  have HM : Hid (E - k ≤ 2000) := by show _ ≤ _; omega
  clear h hE m3 m4 hc hlen hσ hx hum
  go_enter Try.func53, Try.ntmps53
  go_wp2_with (first | (go_at_call 54; refine cb.mono ?_; rintro e w1 ⟨rfl, hk1⟩; obtain ⟨d1, d2, d3, d4, e1, e2, f1, ceq⟩ := WW.out w1 hk1) | (go_at_call 40; refine ceq.mono ?_; rintro e w4 ⟨rfl, hk4⟩))
  go_ret
  refine ⟨rfl, ?_, ?_⟩
  · rw [HX.out]; exact (W2.out w1 hk1).same hk4
  · exact (WK.out w1 hk1).trans hk4 (fun _ _ f => f.elim)
set_option maxHeartbeats 4000000 in
theorem pass_old {N : Nat} {w : World} {aB tB sB A b : Nat} {L : List Sym} {ao : Option Addr} {cap : Nat} {u : List Int} {k m v : Nat} {σ : Tb} (h : PassAt N w aB tB sB A b L ao cap u k σ) (h1v : 1 ≤ v) (hv : v ≤ 99) (hk : k ≤ u.length) (hs : scan L 1 (u.drop k) = some m) (hσ : σ v ≠ []) (hb : (σ v).length ≤ 2000) :
    Calls Try.prog 53 #[.int .i64 (-(v : Int)), .pointer (some ⟨aB, 0, none⟩), .pointer (some ⟨tB, 0, none⟩), .pointer (some ⟨sB, 0, none⟩), .pointer (some ⟨A, 0, none⟩)] w fun e w' => e = .returned (.bool (sameB (σ v) (headT L (u.drop k)))) ∧ PassAt N w' aB tB sB A b L ao cap u (k + m) σ ∧ Kept (fun i => i = aB ∨ i = A) w w' := by
  obtain ⟨c1, c2, c3, c4⟩ := h.cells
  obtain ⟨m1, m2, m3, m4⟩ := scan_end hs hk
  have cb := behind_any (cap := cap) h.sg h.ints h.um hk hs
  obtain ⟨E, hE⟩ : ∃ E, E = k + m := ⟨_, rfl⟩
  rw [← hE] at cb m2 m3 m4 ⊢
  obtain ⟨tb, off, rfl, htb, hc⟩ := h.ints.get (i := k) (by omega)
  have hcap := h.uc
  have hlen : ((u.take E).drop k).length = E - k := by omega
  obtain ⟨⟨pb, po⟩, pc, hp⟩ : ∃ (z : Nat × Nat) (pc : Nat), w.cell? ⟨A, v, none⟩ = some (.slice (some ⟨z.1, z.2, none⟩) (σ v).length pc) := by
    obtain ⟨xo, xc, g1, g2, g3, _, _⟩ := h.tab.cell (v := v) (by omega)
    obtain ⟨pb, po, rfl, _⟩ := g3.get (i := 0) (List.length_pos_iff.2 hσ)
    exact ⟨(pb, po), xc, g1⟩
  simp only at hp
  have W1 : Hid (∀ w1, Same0 w w1 → PassAt N (w1.setCell ⟨aB, 0, none⟩ (.int .i64 (E : Int))) aB tB sB A b L (some ⟨tb, off, none⟩) cap u E σ) := fun w1 hk1 => (h.same hk1).go E
  have WK : Hid (∀ w1, Same0 w w1 → Kept (fun i => i = aB ∨ i = A) w (w1.setCell ⟨aB, 0, none⟩ (.int .i64 (E : Int)))) := fun w1 hk1 =>
    ((hk1.mono (S' := fun i => i = aB ∨ i = A) (fun _ _ f => f.elim)).setCell (p := ⟨aB, 0, none⟩) (fun _ => .inl rfl) _)
  have WW : Hid (∀ w1, Same0 w w1 → (w1.setCell ⟨aB, 0, none⟩ (.int .i64 (E : Int))).cell? ⟨aB, 0, none⟩ = some (.int .i64 (E : Int)) ∧ w1.cell? ⟨aB, 0, none⟩ = some (.int .i64 (k : Int)) ∧ w1.frozen? ⟨aB, 0, none⟩ = false ∧ (w1.setCell ⟨aB, 0, none⟩ (.int .i64 (E : Int))).cell? ⟨tB, 0, none⟩ = some (.slice (some ⟨tb, off, none⟩) u.length cap) ∧ (w1.setCell ⟨aB, 0, none⟩ (.int .i64 (E : Int))).cell? ⟨A, v, none⟩ = some (.slice (some ⟨pb, po, none⟩) (σ v).length pc) ∧
      Calls Try.prog 40 #[.slice (some ⟨pb, po, none⟩) (σ v).length pc, .slice (some ⟨tb, off + k, none⟩) (E - k) (cap - k)] (w1.setCell ⟨aB, 0, none⟩ (.int .i64 (E : Int))) fun e w' => e = .returned (.bool (sameB (σ v) ((u.take E).drop k))) ∧ Same0 (w1.setCell ⟨aB, 0, none⟩ (.int .i64 (E : Int))) w') := fun w1 hk1 => by
    have p0 := (h.same hk1).cells
    have p1 := W1.out w1 hk1
    obtain ⟨xo, xc, g1, g2, g4, _, g3⟩ := p1.tab.cell (v := v) (by omega)
    have hp1 : w1.cell? ⟨A, v, none⟩ = some (.slice (some ⟨pb, po, none⟩) (σ v).length pc) := by
      obtain ⟨cs, y1, _⟩ := h.tab
      exact (hk1.cell (p := ⟨A, v, none⟩) (lt_of_at y1) (fun f => f)).trans hp
    have hp2 : (w1.setCell ⟨aB, 0, none⟩ (.int .i64 (E : Int))).cell? ⟨A, v, none⟩ = some (.slice (some ⟨pb, po, none⟩) (σ v).length pc) := by
      have kk : Kept (fun i => i = aB) w1 (w1.setCell ⟨aB, 0, none⟩ (.int .i64 (E : Int))) := Kept.setCell (p := ⟨aB, 0, none⟩) (Kept.refl (fun i => i = aB) w1) (fun _ => rfl) _
      obtain ⟨cs, y1, _⟩ := h.tab
      exact (kk.cell (p := ⟨A, v, none⟩) (Nat.lt_of_lt_of_le (lt_of_at y1) hk1.size) (fun e => h.ne.2.2.2.2.2.2.1 e.symm)).trans hp1
    rw [hp2] at g1
    cases g1
    have q := p1.ints.cut k E
    have ce := equal_any (acap := pc) (bcap := cap - k) g4 q (by unfold maxLen; omega)
    rw [hlen] at ce
    exact ⟨p1.cells.1, p0.1, p0.2.1, p1.cells.2.2.1, hp2, ce⟩
  have HX : Hid (headT L (u.drop k) = (u.take E).drop k) := m3
  have i1 : (0 : Int) ≤ (k : Int) := by omega
  have i2 : (k : Int) ≤ (E : Int) := by omega
  have i3 : (E : Int) ≤ (cap : Int) := by omega
  have i4 : ¬ cap = k := by omega
  have i5 : (0 : Int) ≤ (v : Int) := by omega
  have i6 : (v : Int) < 100 := by omega
  have i7 : - -(v : Int) = (v : Int) := by omega
  have i8 : ¬ v = 0 := by omega
  have hnil := eqnil
  clear h hE m3 m4 hc hlen hσ hp
  go_enter Try.func53, Try.ntmps53
  go_wp2_with (first | (go_at_call 54; refine cb.mono ?_; rintro e w1 ⟨rfl, hk1⟩; obtain ⟨d1, d2, d3, d4, e1, ceq⟩ := WW.out w1 hk1) | (go_at_call 40; refine ceq.mono ?_; rintro e w4 ⟨rfl, hk4⟩))
  go_ret
  refine ⟨by rw [HX.out]; rfl, ?_, ?_⟩
  · exact (W1.out w1 hk1).same hk4
  · exact (WK.out w1 hk1).trans hk4 (fun _ _ f => f.elim)
end Go.Proofs.Ytbcchplcppogoaa
