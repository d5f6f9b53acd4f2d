import Derived.Test.YthhcnllabhfejaaGUnifyMost05
import Derived.Deep.LoopGhost
import Derived.Deep.CutRange
import Derived.Deep.RegionHeld3
import Derived.BigRegion
import Derived.Test.YthhcnllabhfejaaGUnifyMost04
import Derived.Test.YthhcnllabhfejaaGUnifyMost03
import Derived.Deep.RegionLaw
/- The walk of package unify's unite. -/
namespace Go.Proofs.Ythhcnllabhfejaa
set_option maxRecDepth 100000
set_option linter.unusedVariables false
open Go.RowKit
attribute [local go_sem ↓] Go.wp_at_zero Go.wp_at_succ
theorem JB.way_foot {B : JB} {k : Nat} (h : B.Way k) : B.Foot k := by
  rcases h with e | e
  · exact .inl e
  · exact .inr (.inr (.inr (.inl e)))
structure URel (L : List Sym) (B : JB) (J : List Int) (sz : Nat → Int) (res : Option (Int → Int)) (w0 : World) (k : Nat) (wr : World) (v : Value) (ld : Int → Int) (rs : List (Nat × Nat × Nat)) : Prop where
  u : UOk L J res k ld rs
  j : JAt L B wr J ld sz
  row : RRow w0.heap.size wr v rs
  kept : Kept B.Way w0 wr
theorem URel.drewN {L : List Sym} {B : JB} {J : List Int} {sz : Nat → Int} {res : Option (Int → Int)} {w0 : World} {k : Nat} {wr : World} {v : Value} {ld : Int → Int} {rs : List (Nat × Nat × Nat)} (h : URel L B J sz res w0 k wr v ld rs) (n : Nat) : URel L B J sz res w0 k (wr.drewN n) v ld rs :=
  ⟨h.u, h.j.kept (S := fun _ => False) ((Kept.refl _ _).drewN n) (fun _ _ f => f), h.row.kept (S := fun _ => False) ((Kept.refl _ _).drewN n) (fun _ _ f => f), h.kept.drewN n⟩
def UEnd (L : List Sym) (B : JB) (J : List Int) (sz : Nat → Int) (res : Option (Int → Int)) (w : World) (e : Ending) (w' : World) : Prop := (∀ ld', res = some ld' → e = .returned (.bool true) ∧ JAt L B w' J ld' sz) ∧ (res = none → e = .returned (.bool false)) ∧ Kept B.Way w w'
theorem run_new (w : World) (x y o : Nat) : RRow w.heap.size (w.alloc (.cells #[.int .i64 (x : Int), .int .i64 (y : Int), .int .i64 (o : Int)] 107)) (.slice (some ⟨w.heap.size, 0, none⟩) 1 1) [(x, y, o)] :=
  ⟨by simp [runCells], .inr ⟨w.heap.size, 1, _, rfl, Nat.le_refl _, heap_alloc_new _ _, Nat.le_refl _, by decide, rfl, rfl⟩⟩
theorem JAt.join {L : List Sym} {w : World} {B : JB} {J : List Int} {ld : Int → Int} {sz : Nat → Int} (h : JAt L B w J ld sz) {p q : Int} (hp : UPart J p) (hq : UPart J q) (lp : ld p = p) (lq : ld q = q) (hpq : p ≠ q) : JAt L B (w.setCell (nxA B p) (.int .i64 q)) J (un p q ld) sz ∧ Kept B.Way w (w.setCell (nxA B p) (.int .i64 q)) := by
  obtain ⟨nx, ρ, h1, h2⟩ := h
  obtain ⟨g1, g2⟩ := h1.put hp q
  exact ⟨⟨_, _, g1, h2.join hp hq lp lq hpq⟩, g2.mono (fun i _ e => by rw [e]; exact B.way p)⟩
theorem nxA_var (B : JB) {v : Nat} (hv : 1 ≤ v) : nxA B (-(v : Int)) = ⟨B.jb, 2 + v, none⟩ := by unfold nxA; rw [if_pos (by omega)]; congr 2; omega
theorem nxA_nat (B : JB) (v : Nat) : nxA B (v : Int) = ⟨B.sb, v, none⟩ := by unfold nxA; rw [if_neg (by omega)]; congr 1
theorem RRow.own {base : Nat} {w : World} {v : Value} {rs : List (Nat × Nat × Nat)} (h : RRow base w v rs) {k : Nat} (e : v.ownBlock = some k) : base ≤ k := by
  rcases h.2 with ⟨e', _⟩ | ⟨g, cap, cur, hv, hb, _⟩
  · rw [e'] at e; simp [Value.ownBlock] at e
  · rw [hv] at e; simp [Value.ownBlock] at e; omega
set_option maxHeartbeats 4000000 in
theorem unite_any {L : List Sym} {w : World} {B : JB} {J : List Int} {ld : Int → Int} {sz : Nat → Int} {res : Option (Int → Int)} (h : JAt L B w J ld sz) {a b n : Nat} (ha : a < J.length) (hb : b < J.length) (hJ : J.length ≤ 4000) (hu : UOk L J res n ld [(a, endN L J a, b)]) :
    Calls Try.prog 44 #[.pointer (some ⟨B.jb, 0, none⟩), .int .i64 (a : Int), .int .i64 (b : Int)] w (UEnd L B J sz res w) := by
  have hfoot : ∀ k, B.Foot k → k < w.heap.size := by
    obtain ⟨nx, ρ, hC, _⟩ := h
    exact fun k hk => hC.lt hk
  have U0 : URel L B J sz res w n (w.alloc (.cells #[.int .i64 (a : Int), .int .i64 (endN L J a : Int), .int .i64 (b : Int)] 107)) (.slice (some ⟨w.heap.size, 0, none⟩) 1 1) ld [(a, endN L J a, b)] :=
    ⟨hu, h.kept (S := fun _ => False) (Kept.alloc (Kept.refl _ w) _) (fun _ _ f => f), run_new w a _ b, Kept.alloc (Kept.refl _ w) _⟩
  obtain ⟨nx, ρ, hC, _⟩ := h
  obtain ⟨c0, c1, c2, c3, c4⟩ := hC.head.cells
  have ce := (hC.ends.cell ha).1
  clear hC
  have i1 : (0 : Int) ≤ (a : Int) := by omega
  have i2 : (a : Int) < (J.length : Int) := by omega
  go_enter Try.func44, Try.ntmps44
  go_wp2_with fail
  go_step3
  go_wp2_with fail
  go_step3
  go_wp2_with fail
  clear c0 c1 c2 c3 c4 ce i1 i2 hu
  go_loopg [7] n (fun k s7 wr => ∃ ld rs, URel L B J sz res w k wr s7 ld rs)
  case atStart => exact ⟨ld, _, U0⟩
  case round =>
    clear U0
    obtain ⟨ld, rs, hU⟩ := hrel
    cases rs with
    | nil =>
      obtain ⟨vo, vcap, rfl⟩ := row_shape hU.row
      have e1 := hU.u.nil
      have fin : UEnd L B J sz res w (.returned (.bool true)) wr := ⟨fun ld' e => ⟨rfl, by rw [e1] at e; cases e; exact hU.j⟩, fun e => (by rw [e1] at e; cases e), hU.kept⟩
      clear hU e1
      go_wp2_with fail
      go_returns
      exact fin
    | cons r rs =>
      obtain ⟨x, y, o⟩ := r
      obtain ⟨g, cap, rfl, hg1, hg2, hcap, -⟩ := hU.row.top
      have hlen : rs.length ≤ 4000 := by have := hU.u.len; simp at this; omega
      have j1 : (0 : Int) ≤ (rs.length : Int) := by omega
      have j2 : (rs.length : Int) < ((rs.length + 1 : Nat) : Int) := by omega
      go_wp2_with fail
      go_loopg [7] gk (fun k s7 wi => ∃ ld x o, s7 = .slice (some ⟨g, 0, none⟩) (rs.length + 1) cap ∧ k ≤ gk ∧ URel L B J sz res w k wi s7 ld ((x, y, o) :: rs))
      case atStart => exact ⟨ld, x, o, rfl, Nat.le_refl _, hU⟩
      case round =>
        clear hU
        obtain ⟨ld, x, o, rfl, hgk, hU⟩ := hrel
        obtain ⟨g', cap', hv, -, hg3, -, q0, q1, q2, q3, q4⟩ := hU.row.top
        simp only [Value.slice.injEq, Option.some.injEq, Addr.mk.injEq, and_true, true_and] at hv
        obtain ⟨rfl, rfl⟩ := hv
        by_cases hxy : x < y
        · have hxi : (x : Int) < (y : Int) := by omega
          obtain ⟨t1, t2, t3, t4, hpx, hpo, hlx, hlo, hr⟩ := hU.u.top hxy
          go_wp2_with fail
          go_quiet (fail)
          have hV := hU.drewN nq
          obtain ⟨wq, hwq⟩ : ∃ wq, wr.drewN nq = wq := ⟨_, rfl⟩
          rw [hwq] at hV ⊢
          clear hU hwq q0 q1 q2 q3 q4 hg3
          obtain ⟨g', cap', hv, -, hg3, -, q0, q1, q2, q3, q4⟩ := hV.row.top
          simp only [Value.slice.injEq, Option.some.injEq, Addr.mk.injEq, and_true, true_and] at hv
          obtain ⟨rfl, rfl⟩ := hv
          have hng : ¬ B.Way g := fun f => by have := hfoot g (JB.way_foot f); omega
          have CX : Hid (∀ ww z, UPart J z → JAt L B ww J ld sz ∧ Kept B.Way wq ww → Calls Try.prog 55 #[.pointer (some ⟨B.jb, 0, none⟩), .int .i64 z] ww fun e w' => e = .returned (.int .i64 (ld z)) ∧ JAt L B w' J ld sz ∧ Kept B.Way wq w') := fun ww z hz hw => (leader_any hw.1 hz).mono (fun e w' ⟨a1, a2, a3⟩ => ⟨a1, a2, hw.2.trans a3 (fun _ _ f => f)⟩)
          have px : UPart J (x : Int) := part_nat t1
          have po : UPart J (o : Int) := part_nat t2
          have CC : Hid (∀ ww, Kept B.Way wq ww → ww.cell? ⟨g, rs.length * 3, none⟩ = some (.int .i64 (x : Int)) ∧ ww.cell? ⟨g, rs.length * 3 + 2, none⟩ = some (.int .i64 (o : Int))) := fun ww hk => ⟨(hk.cell (p := ⟨g, _, none⟩) hg3 hng).trans q0, (hk.cell (p := ⟨g, _, none⟩) hg3 hng).trans q2⟩
          have W1 : JAt L B wq.drew J ld sz ∧ Kept B.Way wq wq.drew := ⟨hV.j.kept (S := fun _ => False) ((Kept.refl _ _).drew) (fun _ _ f => f), (Kept.refl _ _).drew⟩
          go_upto_region 5 with fail
          go_cut [9, 10] from 30 to 138 (fun s9 s10 wc => s9 = .int .i64 (ld x) ∧ s10 = .int .i64 (ld o) ∧ JAt L B wc J ld sz ∧ Kept B.Way wq wc)
          case first =>
            clear hV
            have CC0 := CC.out _ W1.2
            go_region_held3 (fun w' => w'.cell? ⟨g, rs.length * 3, none⟩ = some (.int .i64 (x : Int)) ∧ w'.cell? ⟨g, rs.length * 3 + 2, none⟩ = some (.int .i64 (o : Int))) (first | exact CC0 | exact cc1) (first | (go_at_call 55; refine (CX.out _ _ (by first | exact px | exact po) (by first | exact hw1 | exact W1)).mono ?_; rintro e w1 ⟨rfl, hw1⟩; have cc1 := CC.out _ hw1.2))
            all_goals
              go_wp2_with fail
              go_meet
              exact ⟨rfl, rfl, hw1⟩
          case rest =>
            obtain ⟨rfl, rfl, hJ1, hK1⟩ := hcut
            clear CX CC W1 q0 q1 q2 q3 q4
            have hR1 := hV.row.kept hK1 (fun k hk f => by have := hfoot k (JB.way_foot f); omega)
            have hK2 : Kept B.Way w wc := hV.kept.trans hK1 (fun _ _ f => f)
            obtain ⟨g', cap', hv, -, hg4, -, q0, q1, q2, q3, q4⟩ := hR1.top
            simp only [Value.slice.injEq, Option.some.injEq, Addr.mk.injEq, and_true, true_and] at hv
            obtain ⟨rfl, rfl⟩ := hv
            obtain ⟨k', hk', S1, S2, S3, S4, S5⟩ := hV.u.step hxy
            have hR2 := hR1.on (endN L J x) (endN L J o)
            have hK3 : Kept (fun k => k = g) wc ((wc.setCell ⟨g, rs.length * 3, none⟩ (.int .i64 (endN L J x : Int))).setCell ⟨g, rs.length * 3 + 2, none⟩ (.int .i64 (endN L J o : Int))) := (Kept.setCell (S := fun k => k = g) (p := ⟨g, rs.length * 3, none⟩) (Kept.refl _ _) (fun _ => rfl) _).setCell (p := ⟨g, rs.length * 3 + 2, none⟩) (fun _ => rfl) _
            have hJ2 := hJ1.kept hK3 (fun k hk e => by have := hfoot k hk; omega)
            have hK4 := hK2.trans hK3 (fun k hk e => by omega)
            obtain ⟨nx, ρ, hC, -⟩ := hJ1
            obtain ⟨c0, c1, c2, c3, c4⟩ := hC.head.cells
            have ce1 := (hC.ends.cell t1).1
            have ce2 := (hC.ends.cell t2).1
            have i1 : (0 : Int) ≤ (x : Int) := by omega
            have i2 : (x : Int) < (J.length : Int) := by omega
            have i3 : (0 : Int) ≤ (o : Int) := by omega
            have i4 : (o : Int) < (J.length : Int) := by omega
            have HH : Hid (JAt L B ((wc.setCell ⟨g, rs.length * 3, none⟩ (.int .i64 (endN L J x : Int))).setCell ⟨g, rs.length * 3 + 2, none⟩ (.int .i64 (endN L J o : Int))) J ld sz ∧ RRow w.heap.size ((wc.setCell ⟨g, rs.length * 3, none⟩ (.int .i64 (endN L J x : Int))).setCell ⟨g, rs.length * 3 + 2, none⟩ (.int .i64 (endN L J o : Int))) (.slice (some ⟨g, 0, none⟩) (rs.length + 1) cap) ((endN L J x, y, endN L J o) :: rs) ∧ Kept B.Way w ((wc.setCell ⟨g, rs.length * 3, none⟩ (.int .i64 (endN L J x : Int))).setCell ⟨g, rs.length * 3 + 2, none⟩ (.int .i64 (endN L J o : Int)))) := ⟨hJ2, hR2, hK4⟩
            clear hC hJ2 hR2 hK4 hK3 hV hR1 hK1 hK2
            go_upto_region 6 with fail
            go_cut [] from 30 to 138 (fun w8 => JAt L B w8 J ld sz ∧ RRow w.heap.size w8 (.slice (some ⟨g, 0, none⟩) (rs.length + 1) cap) ((endN L J x, y, endN L J o) :: rs) ∧ Kept B.Way w w8)
            case first =>
              clear S1 S2 S3 S4 S5
              go_region
              all_goals
                go_wp2_with fail
                go_meet
                obtain ⟨a1, a2, a3⟩ := HH.out
                exact ⟨a1.kept (S := fun _ => False) ((Kept.refl _ _).drew) (fun _ _ f => f), a2.kept (S := fun _ => False) ((Kept.refl _ _).drew) (fun _ _ f => f), a3.drew⟩
            case rest =>
              obtain ⟨hJ8, hR8, hK8⟩ := hcut
              clear HH c0 c1 c2 c3 c4 ce1 ce2 q0 q1 q2 q3 q4 hg4
              obtain ⟨p, hp⟩ : ∃ p, ld (x : Int) = p := ⟨_, rfl⟩
              obtain ⟨q, hq⟩ : ∃ q, ld (o : Int) = q := ⟨_, rfl⟩
              rw [hp, hq] at S1 S2 S3 S4 S5 ⊢
              rw [hp] at hpx hlx
              rw [hq] at hpo hlo
              clear hp hq
              by_cases h1 : p = q
              · have hN := S1 h1
                clear S1 S2 S3 S4 S5
                go_wp2_with fail
                go_roundg k'
                case measure => omega
                case rel => exact ⟨ld, _, _, rfl, by omega, hN, hJ8, hR8, hK8⟩
              · by_cases h2 : p < 0
                · have hN := S2 h1 h2
                  obtain ⟨v, rfl⟩ : ∃ v : Nat, p = -(v : Int) := ⟨(-p).toNat, by omega⟩
                  obtain ⟨hJ9, hK9⟩ := hJ8.join hpx hpo hlx hlo h1
                  rw [nxA_var B (by omega)] at hJ9 hK9
                  have hR9 := hR8.kept hK9 (fun k hk f => by have := hfoot k (JB.way_foot f); omega)
                  have hK10 := hK8.trans hK9 (fun _ _ f => f)
                  obtain ⟨nx, ρ, hC, -⟩ := hJ8
                  have i5 : (0 : Int) ≤ (v : Int) := by omega
                  have i6 : (v : Int) < 199 := by have := hpx.1; omega
                  obtain ⟨e1, e2⟩ := hC.head.var (v := v) (by omega) (by omega)
                  clear S1 S2 S3 S4 S5 hC hR8 hK8
                  go_wp2_with fail
                  go_roundg k'
                  case measure => omega
                  case rel => exact ⟨_, _, _, rfl, by omega, hN, hJ9, hR9, hK10⟩
                · by_cases h3 : q < 0
                  · have hN := S3 h1 h2 h3
                    obtain ⟨v, rfl⟩ : ∃ v : Nat, q = -(v : Int) := ⟨(-q).toNat, by omega⟩
                    obtain ⟨hJ9, hK9⟩ := hJ8.join hpo hpx hlo hlx (fun e => h1 e.symm)
                    rw [nxA_var B (by omega)] at hJ9 hK9
                    have hR9 := hR8.kept hK9 (fun k hk f => by have := hfoot k (JB.way_foot f); omega)
                    have hK10 := hK8.trans hK9 (fun _ _ f => f)
                    obtain ⟨nx, ρ, hC, -⟩ := hJ8
                    have i5 : (0 : Int) ≤ (v : Int) := by omega
                    have i6 : (v : Int) < 199 := by have := hpo.1; omega
                    obtain ⟨e1, e2⟩ := hC.head.var (v := v) (by omega) (by omega)
                    clear S1 S2 S3 S4 S5 hC hR8 hK8
                    go_wp2_with fail
                    go_roundg k'
                    case measure => omega
                    case rel => exact ⟨_, _, _, rfl, by omega, hN, hJ9, hR9, hK10⟩
                  · obtain ⟨p, rfl⟩ : ∃ v : Nat, p = (v : Int) := ⟨p.toNat, by omega⟩
                    obtain ⟨q, rfl⟩ : ∃ v : Nat, q = (v : Int) := ⟨q.toNat, by omega⟩
                    have hpl : p < J.length := by have := hpx.2; omega
                    have hql : q < J.length := by have := hpo.2; omega
                    obtain ⟨hJ9, hK9⟩ := hJ8.join hpx hpo hlx hlo h1
                    rw [nxA_nat B p] at hJ9 hK9
                    obtain ⟨nx, ρ, hC, -⟩ := hJ8
                    obtain ⟨c0, c1, c2, c3, c4⟩ := hC.head.cells
                    have cp := (hC.list.cell hpl).1
                    have cq := (hC.list.cell hql).1
                    have cs := hC.same.cell hpl
                    have i5 : (0 : Int) ≤ (p : Int) := by omega
                    have i6 : (p : Int) < (J.length : Int) := by omega
                    have i7 : (0 : Int) ≤ (q : Int) := by omega
                    have i8 : (q : Int) < (J.length : Int) := by omega
                    obtain ⟨cs1, cs2⟩ := cs
                    by_cases h4 : at' J (p : Int) = at' J (q : Int)
                    · have hN := S5 h1 h2 h3 h4
                      have hR9 := hR8.kept hK9 (fun k hk f => by have := hfoot k (JB.way_foot f); omega)
                      have hK10 := hK8.trans hK9 (fun _ _ f => f)
                      have h4' : (at' J (p : Int) == at' J (q : Int)) = true := by simpa using h4
                      clear S1 S2 S3 S4 S5 hC hR8 hK8 hK9
                      go_upto_region 14 with fail
                      go_quiet (fail)
                      have hX : Hid (JAt L B ((wc.drewN nq).setCell ⟨B.sb, p, none⟩ (.int .i64 (q : Int))) J (un (p : Int) (q : Int) ld) sz ∧ RRow w.heap.size ((wc.drewN nq).setCell ⟨B.sb, p, none⟩ (.int .i64 (q : Int))) (.slice (some ⟨g, 0, none⟩) (rs.length + 1) cap) ((endN L J x, y, endN L J o) :: rs) ∧ Kept B.Way w ((wc.drewN nq).setCell ⟨B.sb, p, none⟩ (.int .i64 (q : Int)))) := by
                        have k0 : Same0 (wc.setCell ⟨B.sb, p, none⟩ (.int .i64 (q : Int))) ((wc.drewN nq).setCell ⟨B.sb, p, none⟩ (.int .i64 (q : Int))) := (Kept.refl _ (wc.setCell ⟨B.sb, p, none⟩ (.int .i64 (q : Int)))).drewN nq
                        exact ⟨hJ9.kept k0 (fun _ _ f => f), hR9.kept k0 (fun _ _ f => f), hK10.trans k0 (fun _ _ f => f.elim)⟩
                      clear hJ9 hR9 hK10
                      go_upto_region 8 with fail
                      obtain ⟨w9, hw9⟩ : ∃ w9, (wc.drewN nq).setCell ⟨B.sb, p, none⟩ (.int .i64 (q : Int)) = w9 := ⟨_, rfl⟩
                      rw [hw9] at hX ⊢
                      clear hw9 c0 c1 c2 c3 c4 cp cq cs1 cs2 h4 h4'
                      obtain ⟨i0, hi0, hz0, hz1, hz2⟩ := info_parts info_run
                      have PE : Hid (∀ gg cap' w10, w10.ownsRow w.heap.size 107 3 (.slice (some ⟨gg, 0, none⟩) (rs.length + 1 + 1) cap') (rs.length + 1 + 1) (runCells ((endN L J x, y, endN L J o) :: rs).reverse ++ [.int .i64 ((p : Int) + 1), .int .i64 (endN L J p : Int), .int .i64 ((q : Int) + 1)]) → (w9.alloc (.cells #[.int .i64 ((p : Int) + 1), .int .i64 (endN L J p : Int), .int .i64 ((q : Int) + 1)] 107)).grownBy w10 (some g) → URel L B J sz res w k' w10 (.slice (some ⟨gg, 0, none⟩) (rs.length + 1 + 1) cap') (un (p : Int) (q : Int) ld) ((p + 1, endN L J p, q + 1) :: (endN L J x, y, endN L J o) :: rs)) := by
                        intro gg cap' w10 hown hgrow
                        obtain ⟨a1, a2, a3⟩ := hX.out
                        have kg : Kept (fun k => k = g) w9 w10 := Kept.grown (Kept.alloc (Kept.refl _ w9) _) hgrow (fun k e _ => by simpa using e.symm)
                        refine ⟨by simpa using hN, a1.kept kg (fun k hk e => by have := hfoot k hk; omega), ?_, a3.trans kg (fun k hk e => by omega)⟩
                        unfold RRow
                        rw [runCells_top]
                        simpa using hown
                      obtain ⟨a1, a2, -⟩ := hX.out
                      have hrow : w9.ownsRow w.heap.size 107 3 (.slice (some ⟨g, 0, none⟩) (rs.length + 1) cap) (rs.length + 1) (runCells ((endN L J x, y, endN L J o) :: rs).reverse) := a2
                      obtain ⟨nx, ρ, hC, -⟩ := a1
                      obtain ⟨c0, c1, c2, c3, c4⟩ := hC.head.cells
                      have ce := (hC.ends.cell hpl).1
                      have hn1 : rs.length + 1 + 1 ≤ maxLen := by unfold maxLen; omega
                      have hn2 : (rs.length + 1 + 1) * 24 ≤ 140737488355328 := by omega
                      have hb9 : w.heap.size ≤ (w9.alloc (.cells #[.int .i64 ((p : Int) + 1), .int .i64 (endN L J p : Int), .int .i64 ((q : Int) + 1)] 107)).heap.size := by
                        have := a2.top
                        obtain ⟨g', cap', hv, hb1, hlt1, -⟩ := this
                        simp; omega
                      have i9 : (p : Int) < 4000 := by omega
                      have i10 : (q : Int) < 4000 := by omega
                      clear hX hC a2
                      go_wp2_with (first | (at_builtin; refine wpList_append_lies _ rfl _ _ 108 rfl w.heap.size 107 i0 _ 3 24 Try.underlying108 hi0 hz0 hz1 hz2 rfl (by omega) (.slice (some ⟨g, 0, none⟩) (rs.length + 1) cap) (rs.length + 1) (runCells ((endN L J x, y, endN L J o) :: rs).reverse) rfl (hrow.alloc _) ⟨w9.heap.size, 0, none⟩ 1 1 [.int .i64 ((p : Int) + 1), .int .i64 (endN L J p : Int), .int .i64 ((q : Int) + 1)] rfl rfl (World.news_of_block (cs := #[.int .i64 ((p : Int) + 1), .int .i64 (endN L J p : Int), .int .i64 ((q : Int) + 1)]) (t := 107) (fr := (0, 0)) (heap_alloc_new w9 _)) (by simp [Value.oneCell']) (by omega) hn1 hn2 hb9 (w9.heap.size + 1) (by simp) ?_; intro gg cap' w10 hown hgrow hat hlt; have hP := PE.out gg cap' w10 hown hgrow))
                      go_roundg k'
                      case measure => omega
                      case rel => exact ⟨_, _, hP⟩
                    · have hN := S4 h1 h2 h3 h4
                      have fin : Hid (∀ n, UEnd L B J sz res w (.returned (.bool false)) (wc.drewN n)) := fun n => ⟨fun ld' e => (by rw [hN] at e; cases e), fun _ => rfl, hK8.drewN n⟩
                      clear S1 S2 S3 S4 S5 hC hR8 hK8 hJ9 hK9 hN
                      go_upto_region 14 with fail
                      go_quiet (fail)
                      go_wp2_with fail
                      go_returns
                      exact fin.out _
        · have hxi : ¬ (x : Int) < (y : Int) := by omega
          obtain ⟨k', hk', hU'⟩ := hU.u.pop hxy
          have hP : URel L B J sz res w k' wr (.slice (some ⟨g, 0, none⟩) rs.length cap) ld rs := ⟨hU', hU.j, hU.row.less, hU.kept⟩
          have j3 : (rs.length : Int) ≤ (cap : Int) := by omega
          have hP' : Hid (∀ n, URel L B J sz res w k' (wr.drewN n) (.slice (some ⟨g, 0, none⟩) rs.length cap) ld rs) := fun n => hP.drewN n
          clear hU hU' hP
          go_wp2_with fail
          go_quiet (fail)
          go_wp2_with fail
          go_roundg k'
          case measure => omega
          case rel => exact ⟨ld, rs, hP'.out _⟩
end Go.Proofs.Ythhcnllabhfejaa
/- The writer of package unify in memory; variables numbered as they come; the walk of writeVariable. -/
namespace Go.Proofs.Ythhcnllabhfejaa
set_option maxRecDepth 100000
set_option linter.unusedVariables false
open Go.RowKit
attribute [local go_sem ↓] Go.wp_at_zero Go.wp_at_succ
/-! ### in plain words -/
/-- The variables met, when x comes. -/
def vzs (o : List Int) (x : Int) : List Int := if x < 0 ∧ ¬ x ∈ o then o ++ [x] else o
def vz (o t : List Int) : List Int := t.foldl vzs o
def rn (o : List Int) (x : Int) : Int := if x < 0 then -((o.idxOf x : Int) + 1) else x
/-- What is written of a list. -/
def wrF (o : List Int) : List Int → List Int
  | [] => []
  | x :: r => rn (vzs o x) x :: wrF (vzs o x) r
theorem wrF_append (o a b : List Int) : wrF o (a ++ b) = wrF o a ++ wrF (vz o a) b := by
  induction a generalizing o with
  | nil => rfl
  | cons x r ih => simp only [List.cons_append, wrF, ih]; rfl
theorem vz_append (o a b : List Int) : vz o (a ++ b) = vz (vz o a) b := by simp [vz]
theorem wrF_length (o a : List Int) : (wrF o a).length = a.length := by
  induction a generalizing o with
  | nil => rfl
  | cons x r ih => simp [wrF, ih]
theorem vzs_len (o : List Int) (x : Int) : (vzs o x).length ≤ o.length + 1 := by unfold vzs; split <;> simp
theorem idx_mem {o : List Int} {x : Int} (h : x ∈ o) (l : List Int) : (o ++ l).idxOf x = o.idxOf x := by
  rw [List.idxOf_append, if_pos h]
theorem idx_new {o : List Int} {x : Int} (h : ¬ x ∈ o) : (o ++ [x]).idxOf x = o.length := by
  rw [List.idxOf_append, if_neg h]; simp
theorem idx_lt {o : List Int} {x : Int} (h : x ∈ o) : o.idxOf x < o.length := List.idxOf_lt_length_of_mem h
/-- The number of a variable; 0: not met. -/
def nmO (o : List Int) (v : Nat) : Int := if -(v : Int) ∈ o then (o.idxOf (-(v : Int)) : Int) + 1 else 0
theorem nmO_new {o : List Int} {v : Nat} (h1 : 1 ≤ v) (h : ¬ -(v : Int) ∈ o) (u : Nat) : nmO (vzs o (-(v : Int))) u = if u = v then (o.length : Int) + 1 else nmO o u := by
  unfold vzs
  rw [if_pos ⟨by omega, h⟩]
  unfold nmO
  by_cases e : u = v
  · subst e
    rw [if_pos rfl, if_pos (by simp), idx_new h]
  · rw [if_neg e]
    by_cases hu : -(u : Int) ∈ o
    · rw [if_pos (by simp [hu]), if_pos hu, idx_mem hu]
    · rw [if_neg hu, if_neg (by simp [hu]; omega)]
theorem rn_new {o : List Int} {v : Nat} (h1 : 1 ≤ v) (h : ¬ -(v : Int) ∈ o) : rn (vzs o (-(v : Int))) (-(v : Int)) = -((o.length : Int) + 1) := by
  unfold rn vzs
  rw [if_pos (by omega), if_pos ⟨by omega, h⟩, idx_new h]
theorem rn_old {o : List Int} {v : Nat} (h1 : 1 ≤ v) (h : -(v : Int) ∈ o) : vzs o (-(v : Int)) = o ∧ rn o (-(v : Int)) = -nmO o v := by
  unfold rn vzs nmO
  rw [if_neg (fun f => f.2 h), if_pos (by omega), if_pos h]
  exact ⟨rfl, rfl⟩
/-! ### in memory -/
def WH (w : World) (wb jb : Nat) (v : Value) (nm : Nat → Int) (last : Int) : Prop := ∃ cs, w.heap[wb]? = some (.cells cs 79 (0, 0)) ∧ cs.size = 202 ∧ cs[0]? = some (.pointer (some ⟨jb, 0, none⟩)) ∧ cs[1]? = some v ∧ (∀ u, 1 ≤ u → u < 199 → cs[2 + u]? = some (.int .i64 (nm u))) ∧ cs[201]? = some (.int .i64 last)
theorem WH.kept {S : Nat → Prop} {w w' : World} {wb jb : Nat} {v : Value} {nm : Nat → Int} {last : Int} (h : WH w wb jb v nm last) (hk : Kept S w w') (hs : ¬ S wb) : WH w' wb jb v nm last := by
  obtain ⟨cs, h1, h2⟩ := h
  exact ⟨cs, hk.at h1 hs, h2⟩
theorem WH.cells {w : World} {wb jb : Nat} {v : Value} {nm : Nat → Int} {last : Int} (h : WH w wb jb v nm last) : w.cell? ⟨wb, 0, none⟩ = some (.pointer (some ⟨jb, 0, none⟩)) ∧ w.cell? ⟨wb, 1, none⟩ = some v ∧ w.cell? ⟨wb, 201, none⟩ = some (.int .i64 last) ∧ w.frozen? ⟨wb, 1, none⟩ = false ∧ w.frozen? ⟨wb, 201, none⟩ = false ∧ wb < w.heap.size := by
  obtain ⟨cs, h1, h2, h3, h4, h5, h6⟩ := h
  exact ⟨by rw [cellAt h1]; exact h3, by rw [cellAt h1]; exact h4, by rw [cellAt h1]; exact h6, frozenAt h1 _, frozenAt h1 _, lt_of_at h1⟩
theorem WH.num {w : World} {wb jb : Nat} {v : Value} {nm : Nat → Int} {last : Int} (h : WH w wb jb v nm last) {u : Nat} (h1 : 1 ≤ u) (h2 : u < 199) : w.cell? ⟨wb, 2 + u, none⟩ = some (.int .i64 (nm u)) ∧ w.frozen? ⟨wb, 2 + u, none⟩ = false := by
  obtain ⟨cs, g1, g2, g3, g4, g5, g6⟩ := h
  exact ⟨by rw [cellAt g1]; exact g5 u h1 h2, frozenAt g1 _⟩
theorem WH.setT {w : World} {wb jb : Nat} {v : Value} {nm : Nat → Int} {last : Int} (h : WH w wb jb v nm last) (v' : Value) : WH (w.setCell ⟨wb, 1, none⟩ v') wb jb v' nm last := by
  obtain ⟨cs, g1, g2, g3, g4, g5, g6⟩ := h
  refine ⟨_, setAt g1 _ _, by simpa using g2, ?_, ?_, ?_, ?_⟩
  · rw [Array.getElem?_setIfInBounds, if_neg (by omega)]; exact g3
  · rw [Array.getElem?_setIfInBounds, if_pos rfl, if_pos (by omega)]
  · intro k hk1 hk2
    rw [Array.getElem?_setIfInBounds, if_neg (by omega)]; exact g5 k hk1 hk2
  · rw [Array.getElem?_setIfInBounds, if_neg (by omega)]; exact g6
theorem WH.setLast {w : World} {wb jb : Nat} {v : Value} {nm : Nat → Int} {last : Int} (h : WH w wb jb v nm last) (x : Int) : WH (w.setCell ⟨wb, 201, none⟩ (.int .i64 x)) wb jb v nm x := by
  obtain ⟨cs, g1, g2, g3, g4, g5, g6⟩ := h
  refine ⟨_, setAt g1 _ _, by simpa using g2, ?_, ?_, ?_, ?_⟩
  · rw [Array.getElem?_setIfInBounds, if_neg (by omega)]; exact g3
  · rw [Array.getElem?_setIfInBounds, if_neg (by omega)]; exact g4
  · intro k hk1 hk2
    rw [Array.getElem?_setIfInBounds, if_neg (by omega)]; exact g5 k hk1 hk2
  · rw [Array.getElem?_setIfInBounds, if_pos rfl, if_pos (by omega)]
theorem WH.setNum {w : World} {wb jb : Nat} {v : Value} {nm : Nat → Int} {last : Int} (h : WH w wb jb v nm last) {u : Nat} (h1 : 1 ≤ u) (h2 : u < 199) (x : Int) : WH (w.setCell ⟨wb, 2 + u, none⟩ (.int .i64 x)) wb jb v (fun k => if k = u then x else nm k) last := by
  obtain ⟨cs, g1, g2, g3, g4, g5, g6⟩ := h
  refine ⟨_, setAt g1 _ _, by simpa using g2, ?_, ?_, ?_, ?_⟩
  · rw [Array.getElem?_setIfInBounds, if_neg (by omega)]; exact g3
  · rw [Array.getElem?_setIfInBounds, if_neg (by omega)]; exact g4
  · intro k hk1 hk2
    rw [Array.getElem?_setIfInBounds]
    by_cases e : k = u
    · subst e; rw [if_pos rfl, if_pos (by omega)]; simp
    · rw [if_neg (by omega)]; simp only [e, if_false]; exact g5 k hk1 hk2
  · rw [Array.getElem?_setIfInBounds, if_neg (by omega)]; exact g6
theorem WH.congr {w : World} {wb jb : Nat} {v : Value} {nm nm' : Nat → Int} {last : Int} (h : WH w wb jb v nm last) (e : ∀ u, 1 ≤ u → u < 199 → nm u = nm' u) : WH w wb jb v nm' last := by
  obtain ⟨cs, g1, g2, g3, g4, g5, g6⟩ := h
  exact ⟨cs, g1, g2, g3, g4, fun u a b => by rw [g5 u a b, e u a b], g6⟩
/-- append of one number where there is room, in a region that draws its order. -/
theorem step_fits {ops : Array Oper} {o : Oper} {a : Act} {w : World} {K : Act → World → Prop} {Q : Exit → Act → World → Prop} {E : Prop} (hgd : o.guard = none) (s x : Operand) (t : TypeId) (hop : o.op = Op.call { callee := Callee.builtin Builtin.append, args := #[s, x], argTypes := #[t, t] })
    (base : Nat) (e : TypeId) (i : TypeInfo) (size : Nat) (h1 : Try.prog.underlying t = some (.slice e)) (h2 : Try.prog.info? e = some i) (h4 : i.size = size)
    (g k cap : Nat) (xs : List Value) (hs : a.eval s = .slice (some ⟨g, 0, none⟩) k cap) (hown : w.ownsRow base e size (.slice (some ⟨g, 0, none⟩) k cap) k xs) (ad : Addr) (m c : Nat) (news : List Value) (hx : a.eval x = .slice (some ad) m c) (hn : news.length = m * size)
    (hc : ∀ j u, news[j]? = some u → w.cell? (ad.add j) = some u) (h1c : ∀ u ∈ news, u.oneCell' = true) (b1 : k + m ≤ cap)
    (hK : ∀ w', w'.ownsRow base e size (.slice (some ⟨g, 0, none⟩) (k + m) cap) (k + m) (xs ++ news) → w.grownBy w' (some g) → K (a.put o.dst (.slice (some ⟨g, 0, none⟩) (k + m) cap)) w') :
    if Region.wanted o (yielded ops a.tmps) = true then Oper.wp Try.prog o a w K Q else E := by
  have hw : Region.wanted o (yielded ops a.tmps) = true := by simp [Region.wanted, hgd]
  rw [if_pos hw]
  obtain ⟨w', hrun, r1, r2⟩ := run_append_fits (P := Try.prog) w base t o.type e i size h1 h2 h4 g k cap xs hown ad m c news hn hc h1c b1
  unfold Oper.wp
  simp [execOp, hop, resolve, invoke, builtin, hs, hx, hrun, Result.andThen]
  exact hK w' r1 r2
/-- What is written so far. -/
structure WC (base : Nat) (w : World) (wb jb tb cap : Nat) (out o : List Int) : Prop where
  head : WH w wb jb (.slice (some ⟨tb, 0, none⟩) out.length cap) (nmO o) (o.length : Int)
  row : w.ownsRow base 3 1 (.slice (some ⟨tb, 0, none⟩) out.length cap) out.length (iv out)
  ne : tb ≠ wb
  len : o.length ≤ out.length
  cap : cap ≤ 2000
theorem WC.kept {S : Nat → Prop} {base : Nat} {w w' : World} {wb jb tb cap : Nat} {out o : List Int} (h : WC base w wb jb tb cap out o) (hk : Kept S w w') (h1 : ¬ S wb) (h2 : ¬ S tb) : WC base w' wb jb tb cap out o :=
  ⟨h.head.kept hk h1, hk.row h.row (fun k e => by simp [Value.ownBlock] at e; subst e; exact h2), h.ne, h.len, h.cap⟩
def WPut (base : Nat) (w : World) (wb jb tb cap : Nat) (out o : List Int) (w' : World) : Prop := WC base w' wb jb tb cap out o ∧ Kept (fun k => k = wb ∨ k = tb) w w'
/-- One number more. -/
theorem wput_end {base : Nat} {w w1 : World} {wb jb tb cap : Nat} {out o : List Int} {x : Int} (hH : WH w wb jb (.slice (some ⟨tb, 0, none⟩) out.length cap) (nmO (vzs o x)) ((vzs o x).length : Int)) (hne : tb ≠ wb) (hlen : o.length ≤ out.length) (hcap : cap ≤ 2000)
    (hr : w1.ownsRow base 3 1 (.slice (some ⟨tb, 0, none⟩) (out.length + 1) cap) (out.length + 1) (iv out ++ [.int .i64 (rn (vzs o x) x)])) (hk : Kept (fun k => k = tb) w w1) : WPut base w wb jb tb cap (out ++ [rn (vzs o x) x]) (vzs o x) (w1.setCell ⟨wb, 1, none⟩ (.slice (some ⟨tb, 0, none⟩) (out.length + 1) cap)) ∧ w1.cell? ⟨wb, 1, none⟩ = some (.slice (some ⟨tb, 0, none⟩) out.length cap) ∧ w1.frozen? ⟨wb, 1, none⟩ = false := by
  have hH1 := hH.kept hk (fun e => hne e.symm)
  have k2 : Kept (fun k => k = wb) w1 (w1.setCell ⟨wb, 1, none⟩ (.slice (some ⟨tb, 0, none⟩) (out.length + 1) cap)) := Kept.setCell (S := fun k => k = wb) (p := ⟨wb, 1, none⟩) (Kept.refl _ _) (fun _ => rfl) _
  have e1 : (out ++ [rn (vzs o x) x]).length = out.length + 1 := by simp
  have hl := vzs_len o x
  refine ⟨⟨⟨?_, ?_, hne, by rw [e1]; omega, hcap⟩, (hk.mono (fun _ _ e => .inr e)).trans k2 (fun _ _ e => .inl e)⟩, hH1.cells.2.1, hH1.cells.2.2.2.1⟩
  · rw [e1]; exact hH1.setT _
  · rw [e1, iv_append]
    exact k2.row hr (fun k e f => by simp [Value.ownBlock] at e; omega)
theorem info_intW : (Try.prog.info? 3).map (fun i => (i.zero, i.size, i.bytes)) = some (some (.int .i64 0), 1, 8) := by kernel_rfl
set_option maxHeartbeats 4000000 in
theorem writeVariable_any {base : Nat} {w : World} {wb jb tb cap : Nat} {out o : List Int} (h : WC base w wb jb tb cap out o) {v : Nat} (h1 : 1 ≤ v) (h2 : v < 199) (hfit : out.length + 1 ≤ cap) :
    Calls Try.prog 56 #[.pointer (some ⟨wb, 0, none⟩), .int .i64 (v : Int)] w fun e w' => (∃ x, e = .returned x) ∧ WPut base w wb jb tb cap (out ++ [rn (vzs o (-(v : Int))) (-(v : Int))]) (vzs o (-(v : Int))) w' := by
  obtain ⟨i0, hi0, hz0, hz1, hz2⟩ := info_parts info_intW
  obtain ⟨c0, c1, c2, c3, c4, c5⟩ := h.head.cells
  obtain ⟨n1, n2⟩ := h.head.num h1 h2
  have hlen := h.len
  have hcap := h.cap
  have j1 : (0 : Int) ≤ (v : Int) := by omega
  have j2 : (v : Int) < 199 := by omega
  obtain ⟨l, hl⟩ : ∃ l, out.length = l := ⟨_, rfl⟩
  have hol : (o.length : Int) ≤ 2000 := by omega
  by_cases hm : -(v : Int) ∈ o
  · obtain ⟨q1, q2⟩ := rn_old h1 hm
    rw [q1]
    have hid : o.idxOf (-(v : Int)) < o.length := idx_lt hm
    have hnm : nmO o v = (o.idxOf (-(v : Int)) : Int) + 1 := by unfold nmO; rw [if_pos hm]
    obtain ⟨z, hz⟩ : ∃ z, nmO o v = z := ⟨_, rfl⟩
    rw [hz] at q2 n1 hnm
    rw [q2]
    have hz1' : 1 ≤ z := by omega
    have hz2' : z ≤ 2000 := by omega
    have hwz : IntKind.i64.wrap (-z) = -z := by rw [IntKind.wrap_i64]; omega
    have PE : Hid (∀ w1, w1.ownsRow base 3 1 (.slice (some ⟨tb, 0, none⟩) (l + 1) cap) (l + 1) (iv out ++ [.int .i64 (IntKind.i64.wrap (-z))]) → (w.alloc (.cells #[.int .i64 (IntKind.i64.wrap (-z))] 3)).drew.grownBy w1 (some tb) → WPut base w wb jb tb cap (out ++ [-z]) o (w1.setCell ⟨wb, 1, none⟩ (.slice (some ⟨tb, 0, none⟩) (l + 1) cap)) ∧ w1.cell? ⟨wb, 1, none⟩ = some (.slice (some ⟨tb, 0, none⟩) l cap) ∧ w1.frozen? ⟨wb, 1, none⟩ = false) := by
      intro w1 hr hg
      rw [hwz] at hr hg
      have kg : Kept (fun k => k = tb) w w1 := Kept.grown (Kept.drew (Kept.alloc (Kept.refl _ w) _)) hg (fun k e _ => by simpa using e.symm)
      have hH : WH w wb jb (.slice (some ⟨tb, 0, none⟩) out.length cap) (nmO (vzs o (-(v : Int)))) ((vzs o (-(v : Int))).length : Int) := by rw [q1]; exact h.head
      have := wput_end hH h.ne h.len h.cap (by rw [q1, q2, hl]; exact hr) kg
      rw [q1, q2, hl] at this
      exact this
    have hrow := h.row
    rw [hl] at hrow c1 hfit
    clear h hl hz q2 q1 hid hnm hm hwz
    go_enter Try.func56, Try.ntmps56
    go_upto_region 3 with fail
    go_region_law (refine step_fits (by rfl) _ _ 25 (by rfl) base 3 i0 1 Try.underlying25 hi0 hz1 tb l cap (iv out) (by rfl) ((hrow.alloc _).drew) ⟨w.heap.size, 0, none⟩ 1 1 [.int .i64 (IntKind.i64.wrap (-z))] (by rfl) (by rfl) (World.news_of_block (cs := #[.int .i64 (IntKind.i64.wrap (-z))]) (t := 3) (fr := (0, 0)) (heap_alloc_new w _)) (by simp [Value.oneCell']) hfit ?_; intro w1 hown hgrow; obtain ⟨hP, g1, g2⟩ := PE.out w1 hown hgrow)
    all_goals
      go_wp2_with fail
      go_returns
      exact ⟨⟨_, rfl⟩, hP⟩
  · have q2 := rn_new h1 hm
    have n0 : nmO o v = 0 := by unfold nmO; rw [if_neg hm]
    rw [n0] at n1
    rw [q2]
    have hvl : (vzs o (-(v : Int))).length = o.length + 1 := by unfold vzs; rw [if_pos ⟨by omega, hm⟩]; simp
    obtain ⟨m, hmm⟩ : ∃ m : Int, (o.length : Int) = m := ⟨_, rfl⟩
    rw [hmm] at c2 q2 hol ⊢
    have hm0 : 0 ≤ m := by omega
    have hJ1 := h.head.setLast (m + 1)
    have k1 : Kept (fun k => k = wb ∨ k = tb) w (w.setCell ⟨wb, 201, none⟩ (.int .i64 (m + 1))) := Kept.setCell (S := fun k => k = wb ∨ k = tb) (p := ⟨wb, 201, none⟩) (Kept.refl _ _) (fun _ => .inl rfl) _
    have hrow := h.row
    have r1 : (w.setCell ⟨wb, 201, none⟩ (.int .i64 (m + 1))).ownsRow base 3 1 (.slice (some ⟨tb, 0, none⟩) out.length cap) out.length (iv out) := by
      have k1' : Kept (fun k => k = wb) w (w.setCell ⟨wb, 201, none⟩ (.int .i64 (m + 1))) := Kept.setCell (S := fun k => k = wb) (p := ⟨wb, 201, none⟩) (Kept.refl _ _) (fun _ => rfl) _
      exact k1'.row hrow (fun k e f => by simp [Value.ownBlock] at e; exact h.ne (by omega))
    have hne := h.ne
    clear h
    go_enter Try.func56, Try.ntmps56
    go_upto_region 2 with fail
    obtain ⟨w2, hw2⟩ : ∃ w2, w.setCell ⟨wb, 201, none⟩ (.int .i64 (m + 1)) = w2 := ⟨_, rfl⟩
    rw [hw2] at hJ1 k1 r1 ⊢
    clear hw2 c0 c1 c2 c3 c4 c5 n1 n2 hrow
    obtain ⟨c0, c1, c2, c3, c4, c5⟩ := hJ1.cells
    obtain ⟨n1, n2⟩ := hJ1.num h1 h2
    have hJ2 := hJ1.setNum h1 h2 (m + 1)
    have hJ3 : WH (w2.setCell ⟨wb, 2 + v, none⟩ (.int .i64 (m + 1))) wb jb (.slice (some ⟨tb, 0, none⟩) out.length cap) (nmO (vzs o (-(v : Int)))) ((vzs o (-(v : Int))).length : Int) := by
      rw [hvl, show ((o.length + 1 : Nat) : Int) = m + 1 by omega]
      refine hJ2.congr (fun u a b => ?_)
      rw [nmO_new h1 hm, ← hmm]
    have k2 : Kept (fun k => k = wb) w2 (w2.setCell ⟨wb, 2 + v, none⟩ (.int .i64 (m + 1))) := Kept.setCell (S := fun k => k = wb) (p := ⟨wb, 2 + v, none⟩) (Kept.refl _ _) (fun _ => rfl) _
    have r2 := k2.row r1 (fun k e f => by simp [Value.ownBlock] at e; omega)
    have K2 := k1.trans k2 (fun _ _ e => .inl e)
    have HH : Hid (WH (w2.setCell ⟨wb, 2 + v, none⟩ (.int .i64 (m + 1))).drew wb jb (.slice (some ⟨tb, 0, none⟩) out.length cap) (nmO (vzs o (-(v : Int)))) ((vzs o (-(v : Int))).length : Int) ∧ (w2.setCell ⟨wb, 2 + v, none⟩ (.int .i64 (m + 1))).drew.ownsRow base 3 1 (.slice (some ⟨tb, 0, none⟩) out.length cap) out.length (iv out) ∧ Kept (fun k => k = wb ∨ k = tb) w (w2.setCell ⟨wb, 2 + v, none⟩ (.int .i64 (m + 1))).drew) := ⟨hJ3.kept (S := fun _ => False) (Kept.drew (Kept.refl _ _)) (fun f => f), Kept.row (S := fun _ => False) (Kept.drew (Kept.refl _ _)) r2 (fun _ _ f => f), K2.drew⟩
    clear hJ1 hJ2 hJ3 k1 k2 r1 r2 K2
    go_region
    all_goals
      go_upto_region 3 with fail
      obtain ⟨w3, hw3⟩ : ∃ w3, (w2.setCell ⟨wb, 2 + v, none⟩ (.int .i64 (m + 1))).drew = w3 := ⟨_, rfl⟩
      rw [hw3] at HH ⊢
      clear hw3 c0 c1 c2 c3 c4 c5 n1 n2
      obtain ⟨a1, a2, a3⟩ := HH.out
      obtain ⟨c0, c1, c2, c3, c4, c5⟩ := a1.cells
      obtain ⟨n1, n2⟩ := a1.num h1 h2
      rw [nmO_new h1 hm, if_pos rfl, hmm] at n1
      have hwz : IntKind.i64.wrap (-(m + 1)) = -(m + 1) := by rw [IntKind.wrap_i64]; omega
      have PE : Hid (∀ w4, w4.ownsRow base 3 1 (.slice (some ⟨tb, 0, none⟩) (l + 1) cap) (l + 1) (iv out ++ [.int .i64 (IntKind.i64.wrap (-(m + 1)))]) → (w3.alloc (.cells #[.int .i64 (IntKind.i64.wrap (-(m + 1)))] 3)).drew.grownBy w4 (some tb) → WPut base w wb jb tb cap (out ++ [-(m + 1)]) (vzs o (-(v : Int))) (w4.setCell ⟨wb, 1, none⟩ (.slice (some ⟨tb, 0, none⟩) (l + 1) cap)) ∧ w4.cell? ⟨wb, 1, none⟩ = some (.slice (some ⟨tb, 0, none⟩) l cap) ∧ w4.frozen? ⟨wb, 1, none⟩ = false) := by
        intro w4 hr hg
        rw [hwz] at hr hg
        have kg : Kept (fun k => k = tb) w3 w4 := Kept.grown (Kept.drew (Kept.alloc (Kept.refl _ w3) _)) hg (fun k e _ => by simpa using e.symm)
        obtain ⟨b1, b2, b3⟩ := wput_end a1 hne hlen hcap (by rw [q2, hl]; exact hr) kg
        rw [q2, hl] at b1
        rw [hl] at b2
        exact ⟨⟨b1.1, a3.trans b1.2 (fun _ _ e => e)⟩, b2, b3⟩
      rw [hl] at a2 c1
      have hfit2 : l + 1 ≤ cap := by omega
      clear HH a1 a3 hl q2 hm hwz hvl hmm n0 hfit
      go_region_law (refine step_fits (by rfl) _ _ 25 (by rfl) base 3 i0 1 Try.underlying25 hi0 hz1 tb l cap (iv out) (by rfl) ((a2.alloc _).drew) ⟨w3.heap.size, 0, none⟩ 1 1 [.int .i64 (IntKind.i64.wrap (-(m + 1)))] (by rfl) (by rfl) (World.news_of_block (cs := #[.int .i64 (IntKind.i64.wrap (-(m + 1)))]) (t := 3) (fr := (0, 0)) (heap_alloc_new w3 _)) (by simp [Value.oneCell']) hfit2 ?_; intro w4 hown hgrow; obtain ⟨hP, g1, g2⟩ := PE.out w4 hown hgrow)
      all_goals
        go_wp2_with fail
        go_returns
        exact ⟨⟨_, rfl⟩, hP⟩
end Go.Proofs.Ythhcnllabhfejaa
/- Sizes and terms of parts, in plain words. -/
namespace Go.Proofs.Ythhcnllabhfejaa
set_option linter.unusedVariables false
def updN (sz : Nat → Int) (p : Nat) (v : Int) : Nat → Int := fun k => if k = p then v else sz k
def sizA (f : (Nat → Int) → Int → Option (Int × (Nat → Int))) : List Nat → Int → (Nat → Int) → Option (Int × (Nat → Int))
  | [], s, sz => some (s, sz)
  | x :: r, s, sz =>
    match f sz (x : Int) with
    | none => none
    | some (k, sz') => if k = -1 then some (-1, sz') else sizA f r (min (s + k) 2001) sz'
/-- Where the arguments of a place stand. -/
def kidsL (L : List Sym) (J : List Int) (p : Nat) : List Nat := starts L J (arN L (at' J p)) (p + 1)
/-- The size of a part, by sizes that are known: as the program counts it. -/
def sizF (L : List Sym) (J : List Int) (ld : Int → Int) : Nat → (Nat → Int) → Int → Option (Int × (Nat → Int))
  | 0, _, _ => none
  | n + 1, sz, x =>
    if ld x < 0 then some (1, sz)
    else if sz (ld x).toNat ≠ 0 then some (sz (ld x).toNat, sz)
    else match sizA (sizF L J ld n) (kidsL L J (ld x).toNat) 1 (updN sz (ld x).toNat (-1)) with
      | none => none
      | some (s, sz') => if s = -1 then some (-1, sz') else some (s, updN sz' (ld x).toNat s)
def argsT (f : Int → Option (List Int)) : List Nat → Option (List Int)
  | [] => some []
  | x :: r =>
    match f (x : Int) with
    | none => none
    | some a =>
      match argsT f r with
      | none => none
      | some b => some (a ++ b)
/-- The term of a part, its variables those that lead. -/
def tmF (L : List Sym) (J : List Int) (ld : Int → Int) : Nat → Int → Option (List Int)
  | 0, _ => none
  | d + 1, x =>
    if ld x < 0 then some [ld x]
    else match argsT (tmF L J ld d) (kidsL L J (ld x).toNat) with
      | none => none
      | some u => some (at' J (ld x) :: u)
theorem argsT_mono {f g : Int → Option (List Int)} (h : ∀ x u, f x = some u → g x = some u) : ∀ (l : List Nat) (u : List Int), argsT f l = some u → argsT g l = some u
  | [], u, e => e
  | x :: r, u, e => by
    unfold argsT at e ⊢
    cases h1 : f (x : Int) with
    | none => simp [h1] at e
    | some a =>
      cases h2 : argsT f r with
      | none => simp [h1, h2] at e
      | some b =>
        simp only [h1, h2] at e
        simp only [h _ _ h1, argsT_mono h r b h2]
        exact e
theorem tmF_succ {L : List Sym} {J : List Int} {ld : Int → Int} : ∀ {d : Nat} {x : Int} {u : List Int}, tmF L J ld d x = some u → tmF L J ld (d + 1) x = some u := by
  intro d
  induction d with
  | zero => intro x u h; simp [tmF] at h
  | succ d ih =>
    intro x u h
    rw [tmF] at h ⊢
    by_cases h1 : ld x < 0
    · rw [if_pos h1] at h ⊢; exact h
    · rw [if_neg h1] at h ⊢
      cases h2 : argsT (tmF L J ld d) (kidsL L J (ld x).toNat) with
      | none => simp [h2] at h
      | some v =>
        simp only [h2] at h
        rw [argsT_mono (fun y w hy => ih hy) _ _ h2]
        exact h
theorem tmF_le {L : List Sym} {J : List Int} {ld : Int → Int} {d d' : Nat} (hd : d ≤ d') {x : Int} {u : List Int} (h : tmF L J ld d x = some u) : tmF L J ld d' x = some u := by
  induction d' with
  | zero => obtain rfl : d = 0 := by omega
            exact h
  | succ k ih =>
    by_cases e : d = k + 1
    · subst e; exact h
    · exact tmF_succ (ih (by omega))
/-- The term of a part. -/
def Val (L : List Sym) (J : List Int) (ld : Int → Int) (x : Int) (u : List Int) : Prop := ∃ d, tmF L J ld d x = some u
theorem Val.uniq {L : List Sym} {J : List Int} {ld : Int → Int} {x : Int} {u v : List Int} (h : Val L J ld x u) (k : Val L J ld x v) : u = v := by
  obtain ⟨d, hd⟩ := h
  obtain ⟨e, he⟩ := k
  have h1 := tmF_le (Nat.le_max_left d e) hd
  have h2 := tmF_le (Nat.le_max_right d e) he
  rw [h1] at h2; simpa using h2
/-- The terms of places, one behind the other. -/
def Vals (L : List Sym) (J : List Int) (ld : Int → Int) (l : List Nat) (u : List Int) : Prop := ∃ d, argsT (tmF L J ld d) l = some u
theorem vals_nil (L : List Sym) (J : List Int) (ld : Int → Int) : Vals L J ld [] [] := ⟨0, rfl⟩
theorem vals_cons {L : List Sym} {J : List Int} {ld : Int → Int} {x : Nat} {r : List Nat} {u v : List Int} (h : Val L J ld x u) (k : Vals L J ld r v) : Vals L J ld (x :: r) (u ++ v) := by
  obtain ⟨d, hd⟩ := h
  obtain ⟨e, he⟩ := k
  refine ⟨max d e, ?_⟩
  have h2 := argsT_mono (g := tmF L J ld (max d e)) (fun y w hy => tmF_le (Nat.le_max_right d e) hy) _ _ he
  simp only [argsT, tmF_le (Nat.le_max_left d e) hd, h2]
theorem vals_split {L : List Sym} {J : List Int} {ld : Int → Int} {x : Nat} {r : List Nat} {u : List Int} (h : Vals L J ld (x :: r) u) : ∃ a b, Val L J ld x a ∧ Vals L J ld r b ∧ u = a ++ b := by
  obtain ⟨d, hd⟩ := h
  unfold argsT at hd
  cases h1 : tmF L J ld d (x : Int) with
  | none => simp [h1] at hd
  | some a =>
    cases h2 : argsT (tmF L J ld d) r with
    | none => simp [h1, h2] at hd
    | some b => simp only [h1, h2, Option.some.injEq] at hd; exact ⟨a, b, ⟨d, h1⟩, ⟨d, h2⟩, hd.symm⟩
theorem val_var {L : List Sym} {J : List Int} {ld : Int → Int} {x : Int} (h : ld x < 0) : Val L J ld x [ld x] := ⟨1, by rw [tmF, if_pos h]⟩
theorem val_var' {L : List Sym} {J : List Int} {ld : Int → Int} {x : Int} (h : ld x < 0) {u : List Int} (hv : Val L J ld x u) : u = [ld x] := hv.uniq (val_var h)
theorem val_sym {L : List Sym} {J : List Int} {ld : Int → Int} {x : Int} (h : ¬ ld x < 0) {u : List Int} (hu : Vals L J ld (kidsL L J (ld x).toNat) u) : Val L J ld x (at' J (ld x) :: u) := by
  obtain ⟨d, hd⟩ := hu
  exact ⟨d + 1, by rw [tmF, if_neg h, hd]⟩
theorem val_sym' {L : List Sym} {J : List Int} {ld : Int → Int} {x : Int} (h : ¬ ld x < 0) {u : List Int} (hv : Val L J ld x u) : ∃ v, u = at' J (ld x) :: v ∧ Vals L J ld (kidsL L J (ld x).toNat) v := by
  obtain ⟨d, hd⟩ := hv
  cases d with
  | zero => simp [tmF] at hd
  | succ d =>
    rw [tmF, if_neg h] at hd
    cases h2 : argsT (tmF L J ld d) (kidsL L J (ld x).toNat) with
    | none => simp [h2] at hd
    | some v => simp only [h2, Option.some.injEq] at hd; exact ⟨v, hd.symm, d, h2⟩
theorem val_ld {L : List Sym} {J : List Int} {ld : Int → Int} {x y : Int} (h : ld x = ld y) {u : List Int} (hv : Val L J ld x u) : Val L J ld y u := by
  obtain ⟨d, hd⟩ := hv
  cases d with
  | zero => simp [tmF] at hd
  | succ d => rw [tmF, h] at hd; exact ⟨d + 1, by rw [tmF]; exact hd⟩
/-! ### sizes -/
def SzOk (sz : Nat → Int) : Prop := ∀ p, sz p = -1 ∨ (0 ≤ sz p ∧ sz p ≤ 2001)
theorem SzOk.upd {sz : Nat → Int} (h : SzOk sz) (p : Nat) {v : Int} (hv : v = -1 ∨ (0 ≤ v ∧ v ≤ 2001)) : SzOk (updN sz p v) := fun k => by
  unfold updN; split
  · exact hv
  · exact h k
theorem sizA_ok {f : (Nat → Int) → Int → Option (Int × (Nat → Int))} (hf : ∀ sz x k sz', SzOk sz → f sz x = some (k, sz') → SzOk sz' ∧ (k = -1 ∨ (1 ≤ k ∧ k ≤ 2001))) : ∀ (l : List Nat) (s : Int) (sz : Nat → Int) (k : Int) (sz' : Nat → Int), SzOk sz → 1 ≤ s → s ≤ 2001 → sizA f l s sz = some (k, sz') → SzOk sz' ∧ (k = -1 ∨ (1 ≤ k ∧ k ≤ 2001))
  | [], s, sz, k, sz', h, h1, h2, e => by
    simp only [sizA, Option.some.injEq, Prod.mk.injEq] at e
    obtain ⟨rfl, rfl⟩ := e
    exact ⟨h, .inr ⟨h1, h2⟩⟩
  | x :: r, s, sz, k, sz', h, h1, h2, e => by
    unfold sizA at e
    cases hx : f sz (x : Int) with
    | none => simp [hx] at e
    | some v =>
      obtain ⟨k1, sz1⟩ := v
      simp only [hx] at e
      obtain ⟨g1, g2⟩ := hf _ _ _ _ h hx
      by_cases hk : k1 = -1
      · rw [if_pos hk] at e
        simp only [Option.some.injEq, Prod.mk.injEq] at e
        obtain ⟨rfl, rfl⟩ := e
        exact ⟨g1, .inl rfl⟩
      · rw [if_neg hk] at e
        exact sizA_ok hf r _ _ _ _ g1 (by omega) (by omega) e
theorem sizF_ok {L : List Sym} {J : List Int} {ld : Int → Int} : ∀ (n : Nat) (sz : Nat → Int) (x k : Int) (sz' : Nat → Int), SzOk sz → sizF L J ld n sz x = some (k, sz') → SzOk sz' ∧ (k = -1 ∨ (1 ≤ k ∧ k ≤ 2001)) := by
  intro n
  induction n with
  | zero => intro sz x k sz' _ e; simp [sizF] at e
  | succ n ih =>
    intro sz x k sz' h e
    rw [sizF] at e
    by_cases h1 : ld x < 0
    · rw [if_pos h1] at e
      simp only [Option.some.injEq, Prod.mk.injEq] at e
      obtain ⟨rfl, rfl⟩ := e
      exact ⟨h, .inr ⟨by omega, by omega⟩⟩
    · rw [if_neg h1] at e
      by_cases h2 : sz (ld x).toNat ≠ 0
      · rw [if_pos h2] at e
        simp only [Option.some.injEq, Prod.mk.injEq] at e
        obtain ⟨rfl, rfl⟩ := e
        exact ⟨h, by have := h (ld x).toNat; omega⟩
      · rw [if_neg h2] at e
        cases h3 : sizA (sizF L J ld n) (kidsL L J (ld x).toNat) 1 (updN sz (ld x).toNat (-1)) with
        | none => simp [h3] at e
        | some v =>
          obtain ⟨s, sz1⟩ := v
          obtain ⟨g1, g2⟩ := sizA_ok ih _ _ _ _ _ (h.upd _ (.inl rfl)) (by omega) (by omega) h3
          simp only [h3] at e
          by_cases hs : s = -1
          · rw [if_pos hs] at e
            simp only [Option.some.injEq, Prod.mk.injEq] at e
            obtain ⟨rfl, rfl⟩ := e
            exact ⟨g1, .inl rfl⟩
          · rw [if_neg hs] at e
            simp only [Option.some.injEq, Prod.mk.injEq] at e
            obtain ⟨rfl, rfl⟩ := e
            exact ⟨g1.upd _ (by omega), by omega⟩
/-- How many sizes are not known. -/
def unk (N : Nat) (sz : Nat → Int) : Nat := (List.range N).countP (fun p => decide (sz p = 0))
theorem unk_upd_le {N : Nat} {sz : Nat → Int} {p : Nat} {v : Int} (hv : v ≠ 0) : unk N (updN sz p v) ≤ unk N sz :=
  countP_le (fun x _ h => by
    have h' : updN sz p v x = 0 := of_decide_eq_true h
    refine decide_eq_true ?_
    unfold updN at h'
    by_cases e : x = p
    · rw [if_pos e] at h'; exact absurd h' hv
    · rw [if_neg e] at h'; exact h')
theorem unk_upd_lt {N : Nat} {sz : Nat → Int} {p : Nat} {v : Int} (hv : v ≠ 0) (hp : p < N) (h0 : sz p = 0) : unk N (updN sz p v) < unk N sz :=
  countP_lt (y := p) (fun x _ h => by
    have h' : updN sz p v x = 0 := of_decide_eq_true h
    refine decide_eq_true ?_
    unfold updN at h'
    by_cases e : x = p
    · rw [if_pos e] at h'; exact absurd h' hv
    · rw [if_neg e] at h'; exact h') (by simpa using hp) (by simpa using h0) (by simp [updN, hv])
theorem starts_lt {L : List Sym} {J : List Int} : ∀ {k p q : Nat}, Forest L J k p q → ∀ x ∈ starts L J k p, x < J.length
  | 0, p, q, h, x, hx => by simp [starts] at hx
  | k + 1, p, q, h, x, hx => by
    obtain ⟨h1, h2, h3⟩ := h.succ
    simp only [starts, List.mem_cons] at hx
    rcases hx with e | e
    · rw [e]; have := h1.le; omega
    · exact starts_lt h3 x e
theorem kids_forest {L : List Sym} {J : List Int} (hT : Trs L J) {p : Nat} (hp : p < J.length) : Forest L J (arN L (at' J p)) (p + 1) (endN L J p) := by
  rw [at'_nat J p hp]; exact hT.kids hp
theorem kids_lt {L : List Sym} {J : List Int} (hT : Trs L J) {p : Nat} (hp : p < J.length) : ∀ x ∈ kidsL L J p, x < J.length := starts_lt (kids_forest hT hp)
theorem sizA_ends {N : Nat} {f : (Nat → Int) → Int → Option (Int × (Nat → Int))} {m : Nat} (l : List Nat) (hf : ∀ sz, unk N sz < m → SzOk sz → ∀ x ∈ l, ∃ k sz', f sz (x : Int) = some (k, sz') ∧ unk N sz' ≤ unk N sz ∧ SzOk sz') : ∀ (s : Int) (sz : Nat → Int), unk N sz < m → SzOk sz → ∃ k sz', sizA f l s sz = some (k, sz') ∧ unk N sz' ≤ unk N sz := by
  induction l with
  | nil => intro s sz h h'; exact ⟨s, sz, rfl, Nat.le_refl _⟩
  | cons x r ih =>
    intro s sz h h'
    obtain ⟨k, sz1, h1, h2, h3⟩ := hf sz h h' x (by simp)
    by_cases hk : k = -1
    · exact ⟨-1, sz1, by simp [sizA, h1, hk], h2⟩
    · obtain ⟨k2, sz2, g1, g2⟩ := ih (fun sz a b y hy => hf sz a b y (by simp [hy])) (min (s + k) 2001) sz1 (by omega) h3
      exact ⟨k2, sz2, by simp only [sizA, h1]; rw [if_neg hk]; exact g1, by omega⟩
theorem sizF_ends {L : List Sym} {J : List Int} {ld : Int → Int} (hT : Trs L J) (hl : LdOk J ld) : ∀ (n : Nat) (sz : Nat → Int) (x : Int), UPart J x → SzOk sz → unk J.length sz < n → ∃ k sz', sizF L J ld n sz x = some (k, sz') ∧ unk J.length sz' ≤ unk J.length sz := by
  intro n
  induction n with
  | zero => intro sz x _ _ h; omega
  | succ n ih =>
    intro sz x hx hs hn
    rw [sizF]
    by_cases h1 : ld x < 0
    · rw [if_pos h1]; exact ⟨_, _, rfl, Nat.le_refl _⟩
    · rw [if_neg h1]
      by_cases h2 : sz (ld x).toNat ≠ 0
      · rw [if_pos h2]; exact ⟨_, _, rfl, Nat.le_refl _⟩
      · rw [if_neg h2]
        have hp : (ld x).toNat < J.length := by have := (hl.part x hx).2; omega
        have h0 : sz (ld x).toNat = 0 := by simpa using h2
        have hlt := unk_upd_lt (N := J.length) (sz := sz) (v := -1) (by omega) hp h0
        obtain ⟨k, sz1, g1, g2⟩ := sizA_ends (N := J.length) (m := n) (f := sizF L J ld n) (kidsL L J (ld x).toNat) (fun sz a b y hy => by
          obtain ⟨k, sz', e1, e2⟩ := ih sz y (part_nat (kids_lt hT hp y hy)) b a
          exact ⟨k, sz', e1, e2, (sizF_ok n _ _ _ _ b e1).1⟩) 1 (updN sz (ld x).toNat (-1)) (by omega) (hs.upd _ (.inl rfl))
        rw [g1]
        simp only
        by_cases hk : k = -1
        · rw [if_pos hk]; exact ⟨_, _, rfl, by omega⟩
        · rw [if_neg hk]
          obtain ⟨_, hkk⟩ := sizA_ok (fun sz x k sz' => sizF_ok n sz x k sz') _ _ _ _ _ (hs.upd _ (.inl rfl)) (by omega) (by omega) g1
          have := unk_upd_le (N := J.length) (sz := sz1) (p := (ld x).toNat) (v := k) (by omega)
          exact ⟨_, _, rfl, by omega⟩
/-- Sizes that are known are those of terms. -/
def Known (L : List Sym) (J : List Int) (ld : Int → Int) (sz : Nat → Int) : Prop := ∀ p : Nat, p < J.length → ld p = p → 0 < sz p → ∃ u, Val L J ld p u ∧ sz p = min (u.length : Int) 2001
theorem sizA_known {L : List Sym} {J : List Int} {ld : Int → Int} {n : Nat} (hf : ∀ sz x k sz', UPart J x → SzOk sz → Known L J ld sz → sizF L J ld n sz x = some (k, sz') → Known L J ld sz' ∧ (k ≠ -1 → ∃ u, Val L J ld x u ∧ k = min (u.length : Int) 2001)) : ∀ (l : List Nat), (∀ x ∈ l, x < J.length) → ∀ (s0 : Int) (n0 : Nat) (sz : Nat → Int) (k : Int) (sz' : Nat → Int), SzOk sz → Known L J ld sz → s0 = min (n0 : Int) 2001 → sizA (sizF L J ld n) l s0 sz = some (k, sz') → Known L J ld sz' ∧ (k ≠ -1 → ∃ u, Vals L J ld l u ∧ k = min ((n0 + u.length : Nat) : Int) 2001)
  | [], _, s0, n0, sz, k, sz', h1, h2, h3, e => by
    simp only [sizA, Option.some.injEq, Prod.mk.injEq] at e
    obtain ⟨rfl, rfl⟩ := e
    exact ⟨h2, fun _ => ⟨[], vals_nil _ _ _, by simpa using h3⟩⟩
  | x :: r, hl, s0, n0, sz, k, sz', h1, h2, h3, e => by
    unfold sizA at e
    cases hx : sizF L J ld n sz (x : Int) with
    | none => simp [hx] at e
    | some v =>
      obtain ⟨k1, sz1⟩ := v
      simp only [hx] at e
      obtain ⟨g1, g2⟩ := hf _ _ _ _ (part_nat (hl x (by simp))) h1 h2 hx
      have g3 := sizF_ok n _ _ _ _ h1 hx
      by_cases hk : k1 = -1
      · rw [if_pos hk] at e
        simp only [Option.some.injEq, Prod.mk.injEq] at e
        obtain ⟨rfl, rfl⟩ := e
        exact ⟨g1, fun f => absurd rfl f⟩
      · rw [if_neg hk] at e
        obtain ⟨u, hu, hku⟩ := g2 hk
        have hsum : min (s0 + k1) 2001 = min ((n0 + u.length : Nat) : Int) 2001 := by clear g2 g1 g3 e hf; omega
        obtain ⟨f1, f2⟩ := sizA_known hf r (fun y hy => hl y (by simp [hy])) _ (n0 + u.length) _ _ _ g3.1 g1 hsum e
        refine ⟨f1, fun hk' => ?_⟩
        obtain ⟨u2, hu2, hk2⟩ := f2 hk'
        exact ⟨u ++ u2, vals_cons hu hu2, by rw [hk2, List.length_append]; omega⟩
theorem sizF_known {L : List Sym} {J : List Int} {ld : Int → Int} (hT : Trs L J) (hl : LdOk J ld) : ∀ (n : Nat) (sz : Nat → Int) (x k : Int) (sz' : Nat → Int), UPart J x → SzOk sz → Known L J ld sz → sizF L J ld n sz x = some (k, sz') → Known L J ld sz' ∧ (k ≠ -1 → ∃ u, Val L J ld x u ∧ k = min (u.length : Int) 2001) := by
  intro n
  induction n with
  | zero => intro sz x k sz' _ _ _ e; simp [sizF] at e
  | succ n ih =>
    intro sz x k sz' hx h hK e
    rw [sizF] at e
    by_cases h1 : ld x < 0
    · rw [if_pos h1] at e
      simp only [Option.some.injEq, Prod.mk.injEq] at e
      obtain ⟨rfl, rfl⟩ := e
      exact ⟨hK, fun _ => ⟨_, val_var h1, by simp only [List.length_singleton]; omega⟩⟩
    · rw [if_neg h1] at e
      obtain ⟨p, hp⟩ := Int.eq_ofNat_of_zero_le (Int.not_lt.1 h1)
      have hpl : p < J.length := by have := (hl.part x hx).2; omega
      have hpp : ld (p : Int) = p := by
        have := hl.idem x hx
        rw [hp] at this; exact this
      have e1 : (ld x).toNat = p := by omega
      rw [e1] at e
      by_cases h2 : sz p ≠ 0
      · rw [if_pos h2] at e
        simp only [Option.some.injEq, Prod.mk.injEq] at e
        obtain ⟨rfl, rfl⟩ := e
        refine ⟨hK, fun hk => ?_⟩
        obtain ⟨u, hu, hz⟩ := hK p hpl hpp (by have := h p; omega)
        exact ⟨u, val_ld (by rw [hpp, hp]) hu, hz⟩
      · rw [if_neg h2] at e
        have h0 : sz p = 0 := by simpa using h2
        have hK2 : Known L J ld (updN sz p (-1)) := by
          intro q hq hqq hs
          unfold updN at hs ⊢
          by_cases e : q = p
          · rw [if_pos e] at hs; omega
          · rw [if_neg e] at hs ⊢; exact hK q hq hqq hs
        cases h3 : sizA (sizF L J ld n) (kidsL L J p) 1 (updN sz p (-1)) with
        | none => simp [h3] at e
        | some v =>
          obtain ⟨s, sz1⟩ := v
          obtain ⟨g1, g2⟩ := sizA_known ih _ (kids_lt hT hpl) 1 1 _ _ _ (h.upd _ (.inl rfl)) hK2 (by decide) h3
          obtain ⟨o1, o2⟩ := sizA_ok (fun sz x k sz' => sizF_ok n sz x k sz') _ _ _ _ _ (h.upd _ (.inl rfl)) (by omega) (by omega) h3
          simp only [h3] at e
          by_cases hs : s = -1
          · rw [if_pos hs] at e
            simp only [Option.some.injEq, Prod.mk.injEq] at e
            obtain ⟨rfl, rfl⟩ := e
            exact ⟨g1, fun f => absurd rfl f⟩
          · rw [if_neg hs] at e
            simp only [Option.some.injEq, Prod.mk.injEq] at e
            obtain ⟨rfl, rfl⟩ := e
            obtain ⟨u, hu, hz⟩ := g2 hs
            have hv : Val L J ld (p : Int) (at' J (p : Int) :: u) := by
              have := val_sym (L := L) (J := J) (ld := ld) (x := (p : Int)) (by rw [hpp]; omega) (u := u) (by rw [hpp]; simpa using hu)
              rwa [hpp] at this
            have hlen : s = min ((at' J (p : Int) :: u).length : Int) 2001 := by rw [hz]; simp; omega
            refine ⟨?_, fun _ => ⟨_, val_ld (by rw [hpp, hp]) hv, hlen⟩⟩
            intro q hq hqq hsq
            unfold updN at hsq ⊢
            by_cases e : q = p
            · subst e
              rw [if_pos rfl]
              exact ⟨_, hv, hlen⟩
            · rw [if_neg e] at hsq ⊢; exact g1 q hq hqq hsq
end Go.Proofs.Ythhcnllabhfejaa
