/- The walk of package match along a pattern: what its variables stand for. -/
import Derived.Test.YtbcchplcppogoaaMatchPass
import Derived.Deep.WholeRow
namespace Go.Proofs.Ytbcchplcppogoaa
set_option maxRecDepth 100000
set_option linter.unusedVariables false
open Go.RowKit
attribute [local go_sem ↓] Go.wp_at_zero Go.wp_at_succ
theorem Kept.setRow {S : Nat → Prop} {a w : World} (h : Kept S a w) {g : Nat} (hg : g < a.heap.size → S g) (cs : Array Value) : Kept S a (w.setRow g cs) :=
  h.trans (S' := fun k => k = g) ⟨rfl, rfl, rfl, by simp [World.setRow], fun k _ hn => by simp only [World.setRow, Array.getElem?_modify]; rw [if_neg (fun e => hn e.symm)]⟩ (fun i hi e => by subst e; exact hg hi)
theorem setRow_at {w : World} {g : Nat} {old cs : Array Value} {t : TypeId} {fr : Nat × Nat} (h : w.heap[g]? = some (.cells old t fr)) : (w.setRow g cs).heap[g]? = some (.cells cs t fr) := by
  simp [World.setRow, Array.getElem?_modify, h]
theorem info_table : (Try.prog.info? 68).map (·.size) = some 100 := by kernel_rfl
theorem run_load_table {w : World} {g : Nat} {cs : Array Value} (hg : w.heap[g]? = some (.cells cs 68 (0, 0))) (h : cs.size = 100) : (loadVar 68 ⟨g, 0, none⟩).run Try.prog w = .ok (.agg cs) w :=
  run_loadVar_row w g _ _ cs (0, 0) _ hg Try.underlying68 rfl (by rw [h]; exact info_table)
theorem run_store_table {w : World} {g : Nat} {old cs : Array Value} (hg : w.heap[g]? = some (.cells old 68 (0, 0))) (ho : old.size = 100) (h : cs.size = 100) (h1 : cs.all (·.oneCell') = true) : (storeVar 68 ⟨g, 0, none⟩ (.agg cs)).run Try.prog w = .ok () (w.setRow g cs) :=
  run_storeVar_row w g _ _ old cs hg (by rw [h]; exact info_table) (by omega) h1
theorem run_storeCells_table {w : World} {g : Nat} {old cs : Array Value} (hg : w.heap[g]? = some (.cells old 68 (0, 0))) (ho : old.size = 100) (h : cs.size = 100) (h1 : cs.all (·.oneCell') = true) : (storeCells ⟨g, 0, none⟩ cs.toList 0).run Try.prog w = .ok () (w.setRow g cs) := by
  have := run_store_table hg ho h h1
  have hi := info_table
  cases hq : Try.prog.info? 68 with
  | none => simp [hq] at hi
  | some i =>
    have hs : cs.size = i.size := by simp [hq] at hi; omega
    simpa [storeVar, sizeOf, typeInfo, hq, Value.cells, hs] using this
theorem run_loadCells_table {w : World} {g : Nat} {cs : Array Value} {t : TypeId} (hg : w.heap[g]? = some (.cells cs t (0, 0))) (h : cs.size = 100) : (loadCellsFrom ⟨g, 0, none⟩ 0 100 #[]).run Try.prog w = .ok cs w := by
  have := run_loadCells_list (P := Try.prog) w ⟨g, 0, none⟩ cs.toList (fun j v hv => by
    have hadd : (⟨g, 0, none⟩ : Addr).add j = ⟨g, j, none⟩ := by unfold Addr.add; split <;> simp_all
    rw [hadd, cellAt hg j]
    simpa using hv)
  simpa [loadCells, h] using this
theorem TabV.one {N : Nat} {w : World} {cs : Array Value} {σ : Tb} (h : TabV N w cs σ) : cs.all (·.oneCell') = true := by
  rw [Array.all_eq_true]
  intro i hi
  obtain ⟨ao, cap, h1, _⟩ := h.2 i (by have := h.1; omega)
  rw [Array.getElem?_eq_getElem hi] at h1
  simp only [Option.some.injEq] at h1
  rw [h1]; rfl
/-- At the head of a round. -/
structure WalkAt (Z : Array Value) (w wr : World) (b : Nat) (L : List Sym) (po : Option Addr) (p : List Int) (ao : Option Addr) (cap : Nat) (u : List Int) (i k : Nat) (σ : Tb) : Prop where
  pass : PassAt w.heap.size wr (w.heap.size + 1 + 1 + 1 + 1) (w.heap.size + 1) w.heap.size (w.heap.size + 1 + 1 + 1) b L ao cap u k σ
  res : wr.heap[w.heap.size + 1 + 1]? = some (.cells Z 68 (0, 0))
  pat : IntsAt wr po p
  mw : Proofs.Ytbcchplcppogoaa.mw L p u noT = Proofs.Ytbcchplcppogoaa.mw L (p.drop i) (u.drop k) σ
  even : Even L (p.drop i) (u.drop k)
  kle : k ≤ u.length
  bnd : Bnd σ
  kept : Kept (From w.heap.size) w wr
theorem walk_start {Z : Array Value} (hZ : Z = Array.replicate 100 (.slice none 0 0)) {b : Nat} {w : World} {L : List Sym} (h : Sg w.heap.size w b L) {po ao : Option Addr} {pcap cap : Nat} {p u : List Int} (hp : IntsAt w po p) (hu : IntsAt w ao u) (hum : u.length ≤ 2000) (huc : u.length ≤ cap) (he : Even L p u) (hpn : 0 < u.length) :
    WalkAt Z w (((((w.alloc (.cells #[.pointer (some ⟨b, 0, none⟩)] 29)).alloc (.cells #[.slice ao u.length cap] 25)).alloc (.cells Z 68)).alloc (.cells Z 68)).alloc (.cells #[.int .i64 0] 3)) b L po p ao cap u 0 0 noT := by
  obtain ⟨w1, e1⟩ : ∃ w1, w1 = w.alloc (.cells #[.pointer (some ⟨b, 0, none⟩)] 29) := ⟨_, rfl⟩
  obtain ⟨w2, e2⟩ : ∃ w2, w2 = w1.alloc (.cells #[.slice ao u.length cap] 25) := ⟨_, rfl⟩
  obtain ⟨w3, e3⟩ : ∃ w3, w3 = w2.alloc (.cells Z 68) := ⟨_, rfl⟩
  obtain ⟨w4, e4⟩ : ∃ w4, w4 = w3.alloc (.cells Z 68) := ⟨_, rfl⟩
  obtain ⟨w5, e5⟩ : ∃ w5, w5 = w4.alloc (.cells #[.int .i64 0] 3) := ⟨_, rfl⟩
  rw [← e1, ← e2, ← e3, ← e4, ← e5]
  have z1 : w1.heap.size = w.heap.size + 1 := by rw [e1, World.size_alloc]
  have z2 : w2.heap.size = w.heap.size + 1 + 1 := by rw [e2, World.size_alloc, z1]
  have z3 : w3.heap.size = w.heap.size + 1 + 1 + 1 := by rw [e3, World.size_alloc, z2]
  have z4 : w4.heap.size = w.heap.size + 1 + 1 + 1 + 1 := by rw [e4, World.size_alloc, z3]
  have k1 : Same0 w w1 := by rw [e1]; exact (Kept.refl _ w).alloc _
  have k2 : Same0 w1 w2 := by rw [e2]; exact (Kept.refl _ w1).alloc _
  have k3 : Same0 w2 w3 := by rw [e3]; exact (Kept.refl _ w2).alloc _
  have k4 : Same0 w3 w4 := by rw [e4]; exact (Kept.refl _ w3).alloc _
  have k5 : Same0 w4 w5 := by rw [e5]; exact (Kept.refl _ w4).alloc _
  have K : Same0 w w5 := (((k1.trans' k2).trans' k3).trans' k4).trans' k5
  have b1 : w1.heap[w.heap.size]? = some (.cells #[.pointer (some ⟨b, 0, none⟩)] 29 (0, 0)) := by rw [e1]; exact heap_alloc_new _ _
  have b2 : w2.heap[w.heap.size + 1]? = some (.cells #[.slice ao u.length cap] 25 (0, 0)) := by rw [← z1, e2]; exact heap_alloc_new _ _
  have b3 : w3.heap[w.heap.size + 1 + 1]? = some (.cells Z 68 (0, 0)) := by rw [← z2, e3]; exact heap_alloc_new _ _
  have b4 : w4.heap[w.heap.size + 1 + 1 + 1]? = some (.cells Z 68 (0, 0)) := by rw [← z3, e4]; exact heap_alloc_new _ _
  have b5 : w5.heap[w.heap.size + 1 + 1 + 1 + 1]? = some (.cells #[.int .i64 0] 3 (0, 0)) := by rw [← z4, e5]; exact heap_alloc_new _ _
  refine ⟨⟨b5, ((k3.trans' k4).trans' k5).at0 b2, (((k2.trans' k3).trans' k4).trans' k5).at0 b1, ⟨_, k5.at0 b4, hZ ▸ tab_zero _ _⟩, hu.same K, ?_, huc, hum, h.same K, by omega, by omega, by omega, by omega, by omega, by omega, by omega, by omega, by omega⟩, (k4.trans' k5).at0 b3, hp.same K, rfl, he, by omega, fun v => by simp [noT], Kept.mono K (fun _ _ f => f.elim)⟩
  intro a e
  subst e
  obtain ⟨b', off, e, hlt, _⟩ := hu.get hpn
  cases e; exact hlt
/-- The next round. -/
theorem WalkAt.next {Z : Array Value} {w wr w' : World} {b : Nat} {L : List Sym} {po : Option Addr} {p : List Int} {ao : Option Addr} {cap : Nat} {u : List Int} {i k k' : Nat} {σ σ' : Tb} (h : WalkAt Z w wr b L po p ao cap u i k σ) (hpo : ∀ a, po = some a → p = [] ∨ a.block < w.heap.size)
    (h1 : PassAt w.heap.size w' (w.heap.size + 1 + 1 + 1 + 1) (w.heap.size + 1) w.heap.size (w.heap.size + 1 + 1 + 1) b L ao cap u k' σ') (h2 : Kept (fun i => i = w.heap.size + 1 + 1 + 1 + 1 ∨ i = w.heap.size + 1 + 1 + 1) wr w')
    (h3 : Proofs.Ytbcchplcppogoaa.mw L (p.drop i) (u.drop k) σ = Proofs.Ytbcchplcppogoaa.mw L (p.drop (i + 1)) (u.drop k') σ') (h4 : Even L (p.drop (i + 1)) (u.drop k')) (h5 : k' ≤ u.length) (h6 : Bnd σ') : WalkAt Z w w' b L po p ao cap u (i + 1) k' σ' := by
  refine ⟨h1, h2.at h.res (by omega), ?_, h.mw.trans h3, h4, h5, h6, h.kept.trans h2 (fun i hi e => by rcases e with e | e <;> omega)⟩
  rcases h.pat with e | ⟨b', off, e, hlt, hc⟩
  · exact .inl e
  · subst e
    rcases hpo _ rfl with e | e
    · exact .inl e
    · exact IntsAt.kept (.inr ⟨b', off, rfl, hlt, hc⟩) h2 (fun a ea => by cases ea; rintro (f | f) <;> (simp only at f e; omega))
theorem bnd_upd {σ : Tb} (h : Bnd σ) {v : Nat} {x : List Int} (hx : x.length ≤ 2000) : Bnd (updT σ v x) := fun y => by
  unfold updT
  split
  · exact hx
  · exact h y
theorem walk_step {Z : Array Value} {w wr : World} {b : Nat} {L : List Sym} {po : Option Addr} {p : List Int} {ao : Option Addr} {cap : Nat} {u : List Int} {i k : Nat} {σ : Tb} (hW : WalkAt Z w wr b L po p ao cap u i k σ) (hpo : ∀ a, po = some a → p = [] ∨ a.block < w.heap.size) (hlt : i < p.length) (hv : -99 ≤ p[i]) :
    (∃ k' σ', Calls Try.prog 53 #[.int .i64 p[i], .pointer (some ⟨w.heap.size + 1 + 1 + 1 + 1, 0, none⟩), .pointer (some ⟨w.heap.size + 1, 0, none⟩), .pointer (some ⟨w.heap.size, 0, none⟩), .pointer (some ⟨w.heap.size + 1 + 1 + 1, 0, none⟩)] wr fun e w' => e = .returned (.bool true) ∧ WalkAt Z w w' b L po p ao cap u (i + 1) k' σ') ∨
    (mw L p u noT = none ∧ Calls Try.prog 53 #[.int .i64 p[i], .pointer (some ⟨w.heap.size + 1 + 1 + 1 + 1, 0, none⟩), .pointer (some ⟨w.heap.size + 1, 0, none⟩), .pointer (some ⟨w.heap.size, 0, none⟩), .pointer (some ⟨w.heap.size + 1 + 1 + 1, 0, none⟩)] wr fun e w' => e = .returned (.bool false) ∧ w'.heap[w.heap.size + 1 + 1]? = some (.cells Z 68 (0, 0)) ∧ Same0 w w') := by
  have hd : p.drop i = p[i] :: p.drop (i + 1) := List.drop_eq_getElem_cons hlt
  have hev := hW.even
  rw [hd] at hev
  obtain ⟨x, ts', hx, q1, q2⟩ := hev.cons
  have hku : k < u.length := by
    have := congrArg List.length hx
    simp at this; omega
  have hum := hW.pass.um
  have hx2 : u.drop k = u[k] :: u.drop (k + 1) := List.drop_eq_getElem_cons hku
  have bad : ∀ w', Kept (fun i => i = w.heap.size + 1 + 1 + 1 + 1 ∨ i = w.heap.size + 1 + 1 + 1) wr w' → w'.heap[w.heap.size + 1 + 1]? = some (.cells Z 68 (0, 0)) ∧ Same0 w w' := fun w' g2 => ⟨g2.at hW.res (by omega), from_below (hW.kept.trans g2 (fun i hi e => by rcases e with e | e <;> omega))⟩
  by_cases hn : 0 ≤ p[i]
  · have c := pass_sym hW.pass p[i] hn hku
    by_cases hq : u[k] = p[i]
    · left
      rw [hx2] at hx
      simp only [List.cons.injEq] at hx
      refine ⟨k + 1, σ, c.mono ?_⟩
      rintro e w' ⟨rfl, g1, g2⟩
      exact ⟨by simp [hq], hW.next hpo g1 g2 (by rw [hd, hx2, mw_sym hn, if_pos hq]) (by rw [hx.2]; exact q1 hn (by rw [← hx.1]; exact hq)) (by omega) hW.bnd⟩
    · right
      refine ⟨by rw [hW.mw, hd, hx2, mw_sym hn, if_neg hq], c.mono ?_⟩
      rintro e w' ⟨rfl, g1, g2⟩
      exact ⟨by simp [hq], bad w' g2⟩
  · obtain ⟨m, g1, g2, g3, g4, g5, g6⟩ := q2 hn
    rw [List.length_drop] at g3
    rw [List.drop_drop] at g6
    obtain ⟨v, hvv⟩ : ∃ v : Nat, v = (-p[i]).toNat := ⟨_, rfl⟩
    have hpv : p[i] = -(v : Int) := by omega
    by_cases hs : σ v = []
    · left
      have c := pass_new hW.pass (v := v) (by omega) (by omega) (by omega) g1 hs
      rw [← hpv] at c
      refine ⟨k + m, updT σ v (headT L (u.drop k)), c.mono ?_⟩
      rintro e w' ⟨rfl, y1, y2⟩
      refine ⟨rfl, hW.next hpo y1 y2 ?_ g6 (by omega) (bnd_upd hW.bnd (by omega))⟩
      rw [hd, mw_new hn (by rw [← hvv]; exact hs), g5, List.drop_drop, ← hvv]
    · have c := pass_old hW.pass (v := v) (by omega) (by omega) (by omega) g1 hs (hW.bnd v)
      rw [← hpv] at c
      by_cases hq : σ v = headT L (u.drop k)
      · left
        refine ⟨k + m, σ, c.mono ?_⟩
        rintro e w' ⟨rfl, y1, y2⟩
        refine ⟨by rw [← hq]; simp [sameB], hW.next hpo y1 y2 ?_ g6 (by omega) hW.bnd⟩
        rw [hd, mw_old hn (by rw [← hvv]; exact hs), g5, List.drop_drop, ← hvv, if_pos hq]
      · right
        refine ⟨by rw [hW.mw, hd, mw_old hn (by rw [← hvv]; exact hs), ← hvv, if_neg hq], c.mono ?_⟩
        rintro e w' ⟨rfl, y1, y2⟩
        exact ⟨by simp [sameB, hq], bad w' y2⟩
set_option maxHeartbeats 4000000 in
theorem walk_any {b : Nat} {w : World} {L : List Sym} (h : Sg w.heap.size w b L) {po ao : Option Addr} {pcap cap : Nat} {p u : List Int} (hp : IntsAt w po p) (hu : IntsAt w ao u) (hpm : p.length ≤ 2000) (hum : u.length ≤ 2000) (huc : u.length ≤ cap) (hpv : ∀ x ∈ p, -99 ≤ x) (he : Even L p u) (hpn : 0 < u.length) :
    Calls Try.prog 33 #[.pointer (some ⟨b, 0, none⟩), .slice po p.length pcap, .slice ao u.length cap] w fun e w' => ∃ cs f, e = .returned (.tuple #[.agg cs, .bool f]) ∧ Same0 w w' ∧ (∀ σ, mw L p u noT = some σ → f = true ∧ TabV w.heap.size w' cs σ ∧ Bnd σ) ∧ (mw L p u noT = none → f = false ∧ TabV w.heap.size w' cs noT) := by
  obtain ⟨Z, hZ⟩ : ∃ Z : Array Value, Z = Array.replicate 100 (.slice none 0 0) := ⟨_, rfl⟩
  have hz : Try.zeroCells68 = Z := zeros_table.trans hZ.symm
  have hmf : ∀ (fn : Fn) (first cap : Array Value) (w : World), (Instr.makeFunc fn first cap).run Try.prog w = .ok (.func fn first cap) w := fun _ _ _ _ => rfl
  have W0 := walk_start (po := po) (pcap := pcap) (cap := cap) hZ h hp hu hum huc he hpn
  have hpo : Hid (∀ a, po = some a → p = [] ∨ a.block < w.heap.size) := fun a e => by
    rcases hp with e' | ⟨b', off, e', hlt, _⟩
    · exact .inl e'
    · subst e; cases e'; exact .inr hlt
  have HV : Hid (∀ x ∈ p, -99 ≤ x) := hpv
  have HZ : Hid (Z = Array.replicate 100 (.slice none 0 0)) := hZ
  have hZs : Z.size = 100 := by rw [hZ]; simp
  have HST : Hid (∀ w' : World, w'.heap[w.heap.size + 1 + 1]? = some (.cells Z 68 (0, 0)) → (storeCells ⟨w.heap.size + 1 + 1, 0, none⟩ Z.toList 0).run Try.prog w' = .ok () (w'.setRow (w.heap.size + 1 + 1) Z)) := fun w' hr => run_storeCells_table hr hZs hZs (by rw [hZ]; exact (tab_zero 0 w').one)
  clear hpv hZ
  go_enter Try.func33, Try.ntmps33
  go_wp2
  go_loopw [16] (fun iv wr => ∃ (i k : Nat) (σ : Tb), i ≤ p.length ∧ iv = .int .i64 (i : Int) ∧ WalkAt Z w wr b L po p ao cap u i k σ) (fun iv _ => p.length - (intOf iv).toNat)
  case atStart => exact ⟨0, 0, noT, Nat.zero_le _, rfl, W0⟩
  case round =>
    clear W0
    obtain ⟨i, k, σ, hi, rfl, hW⟩ := hrel
    by_cases hlt : i < p.length
    · obtain ⟨pb, off, rfl, hpb, hc⟩ := hW.pat.get hlt
      have i1 : (0 : Int) ≤ (i : Int) := by omega
      have i2 : (i : Int) < (p.length : Int) := by omega
      rcases walk_step hW hpo.out hlt (HV.out _ (List.getElem_mem hlt)) with ⟨k', σ', cc⟩ | ⟨hnone, cc⟩
      · clear hW
        go_wp2_with (first | (go_at_call 53; refine cc.mono ?_; rintro e w' ⟨rfl, hW'⟩))
        exact ⟨⟨i + 1, k', σ', by omega, by go_num, hW'⟩, by simp [intOf]; omega⟩
      · have HN : Hid (mw L p u noT = none) := hnone
        clear hnone hW
        go_wp2_with (first | (go_at_call 53; refine cc.mono ?_; rintro e w' ⟨rfl, hr, hk⟩; have hst := HST.out w' hr))
        have k1 : Same0 w (w'.setRow (w.heap.size + 1 + 1) Z) := hk.setRow (fun e => by omega) Z
        refine bodyPost_ret (v := .tuple #[.agg Z, .bool false]) ?_ rfl ⟨Z, false, rfl, k1, fun σ e => ?_, fun _ => ⟨rfl, ?_⟩⟩
        · rw [results_cell_tmp rfl]
          simp [asAddr, Result.andThen, run_load_table (setRow_at hr) hZs]
        · rw [HN.out] at e; cases e
        · rw [HZ.out]; exact tab_zero _ _
    · have hn : p.drop i = [] := List.drop_eq_nil_of_le (by omega)
      have H : Hid (mw L p u noT = some σ) := by
        have := hW.mw
        rw [hn] at this
        exact this.trans rfl
      have hb := hW.bnd
      have hr := hW.res
      have hk := from_below hW.kept
      obtain ⟨cs, t1, t2⟩ := hW.pass.tab
      have hcs := t2.1
      have hcl : cs.toList.length = 100 := by simpa using hcs
      have hld := run_loadCells_table t1 hcs
      have hst := run_storeCells_table hr hZs hcs t2.one
      have T2 : Hid (TabV w.heap.size wr cs σ) := t2
      clear hW hn t2
      go_wp2
      refine wp_load_row 68 (.tmp 8) rfl _ rfl _ cs (0, 0) _ t1 Try.underlying68 rfl (by rw [hcs]; exact info_table) ?_
      go_wp2
      have k1 : Same0 w (wr.setRow (w.heap.size + 1 + 1) cs) := hk.setRow (fun e => by omega) cs
      refine bodyPost_ret (v := .tuple #[.agg cs, .bool true]) ?_ rfl ⟨cs, true, rfl, k1, fun σ' e => ?_, fun e => ?_⟩
      · rw [results_cell_tmp rfl]
        simp [asAddr, Result.andThen, run_load_table (setRow_at hr) hcs]
      · rw [H.out] at e
        cases e
        exact ⟨rfl, T2.out.kept ((Kept.refl (fun i => i = w.heap.size + 1 + 1) wr).setRow (fun _ => rfl) cs) (fun k hk e => by omega), hb⟩
      · rw [H.out] at e; cases e
end Go.Proofs.Ytbcchplcppogoaa
