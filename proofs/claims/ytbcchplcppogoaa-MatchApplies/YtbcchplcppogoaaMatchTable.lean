/- Binds that lie in memory; the walk of tableOf of package match. -/
import Derived.Test.YtbcchplcppogoaaMatchBinds
namespace Go.Proofs.Ytbcchplcppogoaa
set_option maxRecDepth 100000
set_option linter.unusedVariables false
open Go.RowKit
attribute [local go_sem ↓] Go.wp_at_zero Go.wp_at_succ
/-- Binds that lie in memory. -/
def BindsAt (w : World) (lo : Option Addr) (bs : List Bd) : Prop :=
  bs = [] ∨ ∃ b off, lo = some ⟨b, off, none⟩ ∧ b < w.heap.size ∧ ∀ i (h : i < bs.length), w.cell? ⟨b, off + i * 2, none⟩ = some (.int .i64 bs[i].1) ∧ ∃ ao cap, w.cell? ⟨b, off + i * 2 + 1, none⟩ = some (.slice ao bs[i].2.length cap) ∧ IntsAt w ao bs[i].2 ∧ bs[i].2.length ≤ cap ∧ (ao = none → bs[i].2.length = 0 ∧ cap = 0)
theorem BindsAt.same {w w' : World} {lo : Option Addr} {bs : List Bd} (h : BindsAt w lo bs) (hk : Same0 w w') : BindsAt w' lo bs := by
  refine h.imp id ?_
  rintro ⟨b, off, rfl, hlt, hc⟩
  refine ⟨b, off, rfl, Nat.lt_of_lt_of_le hlt hk.size, fun i hi => ?_⟩
  obtain ⟨c1, ao, cap, c2, c3, c4, c5⟩ := hc i hi
  exact ⟨(hk.cell (p := ⟨b, off + i * 2, none⟩) hlt (fun f => f)).trans c1, ao, cap, (hk.cell (p := ⟨b, off + i * 2 + 1, none⟩) hlt (fun f => f)).trans c2, c3.same hk, c4, c5⟩
theorem BindsAt.get {w : World} {lo : Option Addr} {bs : List Bd} (h : BindsAt w lo bs) {i : Nat} (hi : i < bs.length) : ∃ b off ao cap, lo = some ⟨b, off, none⟩ ∧ b < w.heap.size ∧ w.cell? ⟨b, off + i * 2, none⟩ = some (.int .i64 bs[i].1) ∧ w.cell? ⟨b, off + i * 2 + 1, none⟩ = some (.slice ao bs[i].2.length cap) ∧ IntsAt w ao bs[i].2 ∧ bs[i].2.length ≤ cap ∧ (ao = none → bs[i].2.length = 0 ∧ cap = 0) := by
  rcases h with rfl | ⟨b, off, e, hlt, hc⟩
  · simp at hi
  · obtain ⟨c1, ao, cap, c2, c3, c4, c5⟩ := hc i hi
    exact ⟨b, off, ao, cap, e, hlt, c1, c2, c3, c4, c5⟩
theorem BOwn.at' {base : Nat} {w : World} {v : Value} {l : List (Int × Value)} {bs : List Bd} (h : BOwn base w v l bs) : ∃ lo cap, v = .slice lo bs.length cap ∧ BindsAt w lo bs ∧ bs.length ≤ cap := by
  have hl := h.len
  rcases h.row.2 with ⟨rfl, h0⟩ | ⟨g, cap, cur, rfl, hb, hg, h1, h2, h3, h4⟩
  · have : bs = [] := List.eq_nil_of_length_eq_zero (by omega)
    subst this
    exact ⟨none, 0, rfl, .inl rfl, Nat.le_refl _⟩
  · refine ⟨some ⟨g, 0, none⟩, cap, by rw [hl], .inr ⟨g, 0, rfl, lt_of_at hg, fun i hi => ?_⟩, by omega⟩
    have hi' : i < l.length := by omega
    obtain ⟨e1, e2, e3⟩ := h.each i hi' hi
    obtain ⟨x1, x2⟩ := bcells_at hi'
    obtain ⟨ao, c, y1, y2, y3, y4⟩ := e2.ints
    rw [Nat.zero_add]
    refine ⟨(h.row.cellAt (i * 2) (by omega)).trans (by rw [x1, e1]), ao, c, (h.row.cellAt (i * 2 + 1) (by omega)).trans (by rw [x2, y1]), y2, y3, fun e => ?_⟩
    subst e
    rcases e2.2 with ⟨z1, z2⟩ | ⟨g', c', cur', z1, _⟩
    · rw [y1] at z1; simp only [Value.slice.injEq, true_and] at z1; exact z1
    · rw [y1] at z1; simp at z1
/-- The table of some binds, or what is wrong with the first that may not be. -/
def tabF (L : List Sym) : List Bd → Tb → Except Int Tb
  | [], σ => .ok σ
  | b :: r, σ => if b.1 < 1 ∨ 99 < b.1 ∨ σ b.1.toNat ≠ [] then .error 50 else if checkE L b.2 ≠ 0 then .error (checkE L b.2) else tabF L r (updT σ b.1.toNat b.2)
theorem tab_bad {L : List Sym} {b : Bd} {r : List Bd} {σ : Tb} (h : b.1 < 1 ∨ 99 < b.1 ∨ σ b.1.toNat ≠ []) : tabF L (b :: r) σ = .error 50 := by rw [tabF, if_pos h]
theorem tab_check {L : List Sym} {b : Bd} {r : List Bd} {σ : Tb} (h : ¬ (b.1 < 1 ∨ 99 < b.1 ∨ σ b.1.toNat ≠ [])) (h2 : checkE L b.2 ≠ 0) : tabF L (b :: r) σ = .error (checkE L b.2) := by rw [tabF, if_neg h, if_pos h2]
theorem tab_go {L : List Sym} {b : Bd} {r : List Bd} {σ : Tb} (h : ¬ (b.1 < 1 ∨ 99 < b.1 ∨ σ b.1.toNat ≠ [])) (h2 : checkE L b.2 = 0) : tabF L (b :: r) σ = tabF L r (updT σ b.1.toNat b.2) := by rw [tabF, if_neg h, if_neg (by rw [h2]; simp)]
/-- Each takes one cell. -/
def OneAll (cs : Array Value) : Prop := cs.all (·.oneCell') = true
structure TabW (Z : Array Value) (w wr : World) (L : List Sym) (bs : List Bd) (i : Nat) (σ : Tb) : Prop where
  tab : TabAt w.heap.size wr (w.heap.size + 1) σ
  res : wr.heap[w.heap.size]? = some (.cells Z 68 (0, 0))
  eq : tabF L bs noT = tabF L (bs.drop i) σ
  bnd : Bnd σ
  kept : Same0 w wr
theorem tabw_start {Z : Array Value} (hZ : Z = Array.replicate 100 (.slice none 0 0)) (w : World) (L : List Sym) (bs : List Bd) : TabW Z w ((w.alloc (.cells Z 68)).alloc (.cells Z 68)) L bs 0 noT := by
  have k1 : Same0 w (w.alloc (.cells Z 68)) := (Kept.refl _ w).alloc _
  have k2 : Same0 (w.alloc (.cells Z 68)) ((w.alloc (.cells Z 68)).alloc (.cells Z 68)) := (Kept.refl _ _).alloc _
  refine ⟨⟨Z, ?_, hZ ▸ tab_zero _ _⟩, k2.at0 (heap_alloc_new w _), rfl, fun v => by simp [noT], k1.trans' k2⟩
  have := heap_alloc_new (w.alloc (.cells Z 68)) (.cells Z 68)
  rwa [World.size_alloc] at this
set_option maxHeartbeats 4000000 in
theorem tableOf_any {n b : Nat} {w : World} {L : List Sym} (h : Sg n w b L) {lo : Option Addr} {lcap : Nat} {bs : List Bd} (hl : BindsAt w lo bs) (hm : bs.length ≤ maxLen) (hbm : ∀ x ∈ bs, x.2.length ≤ maxLen) :
    Calls Try.prog 36 #[.pointer (some ⟨b, 0, none⟩), .slice lo bs.length lcap] w fun e w' => ∃ cs c, e = .returned (.tuple #[.agg cs, .int .i64 c]) ∧ cs.size = 100 ∧ OneAll cs ∧ Same0 w w' ∧ (∀ σ, tabF L bs noT = .ok σ → c = 0 ∧ TabV w.heap.size w' cs σ ∧ Bnd σ) ∧ (∀ x, tabF L bs noT = .error x → c = x) := by
  unfold maxLen at hm
  obtain ⟨Z, hZ⟩ : ∃ Z : Array Value, Z = Array.replicate 100 (.slice none 0 0) := ⟨_, rfl⟩
  have hz : Try.zeroCells68 = Z := zeros_table.trans hZ.symm
  have hZs : Z.size = 100 := by rw [hZ]; simp
  have hZ1 : Z.all (·.oneCell') = true := by rw [hZ]; exact (tab_zero 0 w).one
  have W0 := tabw_start hZ w L bs
  have HST : Hid (∀ w' : World, w'.heap[w.heap.size]? = some (.cells Z 68 (0, 0)) → (storeCells ⟨w.heap.size, 0, none⟩ Z.toList 0).run Try.prog w' = .ok () (w'.setRow w.heap.size Z)) := fun w' hr => run_storeCells_table hr hZs hZs hZ1
  have HZ1 : Hid (Z.all (·.oneCell') = true) := hZ1
  have HBM : Hid (∀ x ∈ bs, x.2.length ≤ maxLen) := hbm
  have hnil := neqnil
  clear hZ hZ1 hbm
  -- the end with an error
  have BAD : Hid (∀ (w' : World) (c x : Int), w'.heap[w.heap.size]? = some (.cells Z 68 (0, 0)) → Same0 w w' → tabF L bs noT = .error x → c = x → ∀ tmps : Array Value, tmps.getD 4 undef = .pointer (some ⟨w.heap.size, 0, none⟩) → tmps.getD 5 undef = .int .i64 c → bodyPost Try.prog Try.f36 (fun e w' => ∃ cs c, e = .returned (.tuple #[.agg cs, .int .i64 c]) ∧ cs.size = 100 ∧ OneAll cs ∧ Same0 w w' ∧ (∀ σ, tabF L bs noT = .ok σ → c = 0 ∧ TabV w.heap.size w' cs σ ∧ Bnd σ) ∧ (∀ x, tabF L bs noT = .error x → c = x)) Exit.ret { tmps := tmps, defers := [] } (w'.setRow w.heap.size Z)) := fun w' c x hr hk hx hc tmps h4 h5 => by
    have k1 : Same0 w (w'.setRow w.heap.size Z) := hk.setRow (fun e => by omega) Z
    refine bodyPost_ret (v := .tuple #[.agg Z, .int .i64 c]) ?_ rfl ⟨Z, c, rfl, hZs, HZ1.out, k1, fun σ e => (by rw [hx] at e; cases e), fun y e => (by rw [hx] at e; cases e; exact hc)⟩
    have h4' : tmps[4]?.getD undef = .pointer (some ⟨w.heap.size, 0, none⟩) := by simpa using h4
    have h5' : tmps[5]?.getD undef = .int .i64 c := by simpa using h5
    rw [results_cell_tmp rfl]
    simp [asAddr, Result.andThen, h4', h5', run_load_table (setRow_at hr) hZs]
  go_enter Try.func36, Try.ntmps36
  go_wp2
  go_loopw [12] (fun iv wr => ∃ (i : Nat) (σ : Tb), i ≤ bs.length ∧ iv = .int .i64 (i : Int) ∧ TabW Z w wr L bs i σ) (fun iv _ => bs.length - (intOf iv).toNat)
  case atStart => exact ⟨0, noT, Nat.zero_le _, rfl, W0⟩
  case round =>
    clear W0
    obtain ⟨i, σ, hi, rfl, hW⟩ := hrel
    by_cases hlt : i < bs.length
    · have hd : bs.drop i = bs[i] :: bs.drop (i + 1) := List.drop_eq_getElem_cons hlt
      have heq := hW.eq
      rw [hd] at heq
      obtain ⟨lb, off, ao, cap, rfl, hlb, c1, c2, c3w, c4, c5⟩ := hl.get hlt
      replace c1 := (hW.kept.cell (p := ⟨lb, off + i * 2, none⟩) hlb (fun f => f)).trans c1
      replace c2 := (hW.kept.cell (p := ⟨lb, off + i * 2 + 1, none⟩) hlb (fun f => f)).trans c2
      have c3 := c3w.same hW.kept
      have hbi := HBM.out _ (List.getElem_mem hlt)
      obtain ⟨x, hx⟩ : ∃ x, x = bs[i].1 := ⟨_, rfl⟩
      obtain ⟨u, hu⟩ : ∃ u, u = bs[i].2 := ⟨_, rfl⟩
      have hp : bs[i] = (x, u) := by rw [hx, hu]
      rw [hp] at heq
      rw [← hx] at c1
      rw [← hu] at c2 c3 c3w c4 c5 hbi
      have i1 : (0 : Int) ≤ (i : Int) := by omega
      have i2 : (i : Int) < (bs.length : Int) := by omega
      have k3 : Same0 wr (wr.alloc (.cells #[.int .i64 x, .slice ao u.length cap] 46)) := (Kept.refl _ wr).alloc _
      have K3 := hW.kept.trans' k3
      have res3 := k3.at0 hW.res
      have hst := HST.out _ res3
      clear hx hu hp hd
      by_cases h1 : x < 1
      · have HX : Hid (tabF L bs noT = .error 50) := heq.trans (tab_bad (.inl h1))
        clear heq hW
        go_wp2
        refine BAD.out _ 50 50 res3 K3 HX.out rfl _ ?_ ?_ <;> rfl
      · by_cases h2 : 99 < x
        · have HX : Hid (tabF L bs noT = .error 50) := heq.trans (tab_bad (.inr (.inl h2)))
          clear heq hW
          go_wp2
          refine BAD.out _ 50 50 res3 K3 HX.out rfl _ ?_ ?_ <;> rfl
        · obtain ⟨v, rfl⟩ : ∃ v : Nat, x = (v : Int) := ⟨x.toNat, by omega⟩
          have j1 : (0 : Int) ≤ (v : Int) := by omega
          have j2 : (v : Int) < 100 := by omega
          obtain ⟨so, scap, g1, g2, g3, g4, g5⟩ := (hW.tab.same k3).cell (v := v) (by omega)
          by_cases h3 : σ v = []
          · obtain ⟨rfl, rfl⟩ := g5 h3
            rw [h3] at g1
            have hno : ¬ ((v : Int) < 1 ∨ 99 < (v : Int) ∨ σ (v : Int).toNat ≠ []) := by simp only [Int.toNat_natCast, h3]; simp; omega
            have cc := check_any (cap := cap) (h.same K3) (c3.same k3) hbi
            by_cases h4 : checkE L u = 0
            · obtain ⟨u1, _, u2⟩ := checkE_zero.1 h4
              have hpos := isT_pos u2
              obtain ⟨ub, uoff, rfl, hub, -⟩ := c3w.get hpos
              have Hn : Hid (∀ w' : World, Same0 (wr.alloc (.cells #[.int .i64 (v : Int), .slice (some ⟨ub, uoff, none⟩) u.length cap] 46)) w' → (w'.cell? ⟨wr.heap.size, 0, none⟩ = some (.int .i64 (v : Int)) ∧ w'.cell? ⟨wr.heap.size, 1, none⟩ = some (.slice (some ⟨ub, uoff, none⟩) u.length cap) ∧ w'.cell? ⟨w.heap.size + 1, v, none⟩ = some (.slice none 0 0) ∧ w'.frozen? ⟨w.heap.size + 1, v, none⟩ = false) ∧ TabW Z w (w'.setCell ⟨w.heap.size + 1, v, none⟩ (.slice (some ⟨ub, uoff, none⟩) u.length cap)) L bs (i + 1) (updT σ v u)) := fun w' hk' => by
                have kk := k3.trans' hk'
                have KK := hW.kept.trans' kk
                have hb0 := hk'.at0 (heap_alloc_new wr (.cells #[.int .i64 (v : Int), .slice (some ⟨ub, uoff, none⟩) u.length cap] 46))
                have tt := hW.tab.same kk
                obtain ⟨so', sc', y1, y2, _, _, y5⟩ := tt.cell (v := v) (by omega)
                obtain ⟨rfl, rfl⟩ := y5 h3
                rw [h3] at y1
                refine ⟨⟨cellAt hb0 0, cellAt hb0 1, y1, y2⟩, ?_⟩
                have ks : Kept (fun k => k = w.heap.size + 1) w' (w'.setCell ⟨w.heap.size + 1, v, none⟩ (.slice (some ⟨ub, uoff, none⟩) u.length cap)) := Kept.setCell (p := ⟨w.heap.size + 1, v, none⟩) (Kept.refl (fun k => k = w.heap.size + 1) w') (fun _ => rfl) _
                refine ⟨tt.put (by omega) (by omega) (c3.same kk) c4 (fun e => by rw [e] at hpos; simp at hpos) hub, ks.at (kk.at0 hW.res) (by omega), ?_, bnd_upd hW.bnd u1, KK.trans ks (fun k hk e => by omega)⟩
                rw [heq, tab_go hno h4]; rfl
              rw [h4] at cc
              clear hW heq hst res3 c3 c3w c4 c5 h3 g5 g3 g4 hno u2 u1 h4
              go_wp2_with (first | (go_at_call 31; refine cc.mono ?_; rintro e w5 ⟨rfl, hk5⟩; obtain ⟨⟨e1, e2, e3, e4⟩, hW5⟩ := Hn.out w5 hk5))
              exact ⟨⟨i + 1, _, by omega, by go_num, hW5⟩, by simp [intOf]; omega⟩
            · have HX : Hid (tabF L bs noT = .error (checkE L u)) := heq.trans (tab_check hno h4)
              have h4' : (checkE L u == 0) = false := by simpa using h4
              clear hW heq hst c3 c3w c4 c5 h3 g5 g3 g4 hno h4
              go_wp2_with (first | (go_at_call 31; refine cc.mono ?_; rintro e w5 ⟨rfl, hk5⟩; have res5 := hk5.at0 res3; have hst5 := HST.out _ res5))
              refine BAD.out _ (checkE L u) (checkE L u) res5 (K3.trans' hk5) HX.out rfl _ ?_ ?_ <;> rfl
          · obtain ⟨sb, soff, rfl, -, -⟩ := g3.get (i := 0) (List.length_pos_iff.2 h3)
            have HX : Hid (tabF L bs noT = .error 50) := heq.trans (tab_bad (.inr (.inr (by simpa using h3))))
            clear heq hW g5 g3 g4
            go_wp2
            refine BAD.out _ 50 50 res3 K3 HX.out rfl _ ?_ ?_ <;> rfl
    · have hn : bs.drop i = [] := List.drop_eq_nil_of_le (by omega)
      have H : Hid (tabF L bs noT = .ok σ) := by
        have := hW.eq
        rw [hn] at this
        exact this.trans rfl
      have hb := hW.bnd
      have hr := hW.res
      have hk := hW.kept
      obtain ⟨cs, t1, t2⟩ := hW.tab
      have hcs := t2.1
      have hst := run_storeCells_table hr hZs hcs t2.one
      have T2 : Hid (TabV w.heap.size wr cs σ) := t2
      clear hW hn t2
      go_wp2
      refine wp_load_row 68 (.tmp 6) rfl _ rfl _ cs (0, 0) _ t1 Try.underlying68 rfl (by rw [hcs]; exact info_table) ?_
      go_wp2
      have k1 : Same0 w (wr.setRow w.heap.size cs) := hk.setRow (fun e => by omega) cs
      refine bodyPost_ret (v := .tuple #[.agg cs, .int .i64 0]) ?_ rfl ⟨cs, 0, rfl, hcs, T2.out.one, k1, fun σ' e => ?_, fun x e => ?_⟩
      · rw [results_cell_tmp rfl]
        simp [asAddr, Result.andThen, run_load_table (setRow_at hr) hcs]
      · rw [H.out] at e
        cases e
        exact ⟨rfl, T2.out.kept ((Kept.refl (fun i => i = w.heap.size) wr).setRow (fun _ => rfl) cs) (fun k hk e => by omega), hb⟩
      · rw [H.out] at e; cases e
end Go.Proofs.Ytbcchplcppogoaa
