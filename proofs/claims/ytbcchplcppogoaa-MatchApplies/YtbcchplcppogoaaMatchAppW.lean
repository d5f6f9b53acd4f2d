/- The walk of the statement MatchApplies. -/
import Derived.Test.YtbcchplcppogoaaMatchAwake
import Derived.Test.YtbcchplcppogoaaMatchRApply
import Derived.Test.YtbcchplcppogoaaMatchLoan
import Derived.Test.YtbcchplcppogoaaOpenCase5
import Derived.Test.YtbcchplcppogoaaLeads
namespace Go.Proofs.Ytbcchplcppogoaa
set_option maxRecDepth 100000
set_option linter.unusedVariables false
open Go.RowKit
attribute [local go_sem ↓] Go.wp_at_zero Go.wp_at_succ
theorem applyA_le (L : List Sym) (t : List Int) (bs : List Bd) : (applyA L t bs).length ≤ 2000 := by
  by_cases h : applyE L t bs = 0
  · unfold applyA
    rw [if_pos h]
    cases ht : tabF L bs noT with
    | error x => simp
    | ok σ =>
      simp only
      by_cases hz : checkE L t = 0
      · by_cases hl : 2000 < (appT σ t).length
        · rw [(apply_long hz ht hl).1] at h; cases h
        · omega
      · rw [(apply_check hz).1] at h; exact absurd h hz
  · rw [applyA, if_neg h]; simp
set_option maxHeartbeats 16000000 in
theorem applies_walk (v : Value) (w : World) {lo : Option Addr} {ll lc : Nat} {ls : List Sym} {po : Option Addr} {pc : Nat} {p : List Int} {so : Option Addr} {tc : Nat} {t : List Int} {at' : Int} {bo : Option Addr} {bc : Nat} {bs : List Bd} (hc : Case5Is w v lo ll lc ls po pc p so tc t at' bo bc bs) :
    Calls Try.prog 5 #[v] w fun e w' => e = .returned (.bool true) ∧ Below w.heap.size w w' := by
  obtain ⟨rfl, hsy, hsl, hp, ht, hb⟩ := hc
  obtain ⟨wb, hwb⟩ : ∃ wb, wb = w.alloc (.cells #[.slice lo ll lc, .slice po p.length pc, .slice so t.length tc, .int .i64 at', .slice bo bs.length bc] 28) := ⟨_, rfl⟩
  have kb : Same0 w wb := by rw [hwb]; exact (Kept.refl _ w).alloc _
  have hbox : wb.heap[w.heap.size]? = some (.cells #[.slice lo ll lc, .slice po p.length pc, .slice so t.length tc, .int .i64 at', .slice bo bs.length bc] 28 (0, 0)) := by rw [hwb]; exact heap_alloc_new w _
  have hbl : bs.length ≤ maxLen := by have := hb.size; unfold maxLen; omega
  have hbe : ∀ x ∈ bs, x.2.length ≤ maxLen := fun x hx => maxLen_of (hb.each x hx)
  have hb32 := hb.size
  go_enter Try.func5, Try.ntmps5
  go_wp2_with fail
  rw [← hwb]
  generalize hcb : w.heap.size = cb at *
  clear hwb
  refine (awake5_any _).mono ?_
  rintro e w1 ⟨rfl, k1⟩
  obtain ⟨d0, _, _, _, _⟩ := case_cells hbox k1 (fun f => f)
  go_wp2_with fail
  refine (made_any lo ll lc ls w1 (hsy.same (kb.trans' k1)) hsl).mono ?_
  rintro e w2 ⟨b, rv, rfl, hsg, hrl, k2⟩
  obtain ⟨L0, hL0⟩ : ∃ L0, L0 = madeL ls := ⟨_, rfl⟩
  rw [← hL0] at hsg hrl
  clear hL0 d0
  have K2 := k1.trans' k2
  have KW := kb.trans' K2
  obtain ⟨ro, rc, rfl⟩ := row_shape hrl.1
  have CELLS : Hid (∀ w', Same0 w2 w' → w'.cell? ⟨cb, 1, none⟩ = some (.slice po p.length pc) ∧ w'.cell? ⟨cb, 4, none⟩ = some (.slice bo bs.length bc) ∧ IntsAt w' po p ∧ BindsAt w' bo bs) := fun w' hk => by
    obtain ⟨_, d1, _, _, d4⟩ := case_cells hbox (K2.trans' hk) (fun f => f)
    exact ⟨d1, d4, hp.at'.same (KW.trans' hk), hb.at'.same (KW.trans' hk)⟩
  have FIN : Hid (∀ w', Same0 w2 w' → Below w.heap.size w w') := fun w' hk => (KW.trans' hk).below
  have SGS : Hid (∀ w', Same0 w2 w' → Sg w2.heap.size w' b L0) := fun w' hk => hsg.same hk
  have BE : Hid (∀ x ∈ bs, x.2.length * 8 ≤ 140737488351232) := hb.each
  have BE2 : Hid (∀ x ∈ bs, x.2.length ≤ maxLen) := hbe
  have hps := hp.size
  have hpn := hp.nil
  obtain ⟨d1, d4, ip, ib⟩ := CELLS.out w2 (Kept.refl _ _)
  go_wp2_with fail
  refine (rapply_any (cap := pc) (lcap := bc) hrl ip (maxLen_of hps) ib hb32 hb.cap' hbe).mono ?_
  rintro e w3 ⟨wv, rfl, hr3, k3⟩
  obtain ⟨wo, wc, rfl, hi3, -, -⟩ := hr3.ints
  have AL := applyA_le L0 p bs
  obtain ⟨AE, hAE⟩ : ∃ AE, AE = applyE L0 p bs := ⟨_, rfl⟩
  obtain ⟨AA, hAA⟩ : ∃ AA, AA = applyA L0 p bs := ⟨_, rfl⟩
  have HAP : Hid (∀ w' (gp : Nat) (blo : Option Addr) (blc : Nat), Same0 w2 w' → IntsAt w' (some ⟨gp, 0, none⟩) p → BindsAt w' blo bs → Calls Try.prog 19 #[.pointer (some ⟨b, 0, none⟩), .slice (some ⟨gp, 0, none⟩) p.length (p.length + 1), .slice blo bs.length blc] w' fun e w'' => ∃ v, e = .returned (.tuple #[v, .int .i64 AE]) ∧ Row w'.heap.size w'' v AA ∧ Same0 w' w'') := fun w' gp blo blc hk h1 h2 => by
    rw [hAE, hAA]
    exact apply_any (cap := p.length + 1) (lcap := blc) (SGS.out w' hk) h1 (maxLen_of hps) h2 hbl hbe
  rw [← hAA] at hi3 AL
  rw [← hAE, ← hAA]
  clear hAE hAA hsy K2 k1 kb hbox KW hp ht hb hrl hsg hbe d1 d4 ip ib k2
  obtain ⟨d1, d4, ip, ib⟩ := CELLS.out w3 k3
  go_wp2_with fail
  refine (lent5_any ip hpn hps).mono ?_
  rintro e w4 ⟨g1, rfl, hg1, hg1', hrow1, k4⟩
  have K4 := k3.trans' k4
  clear d1 d4 ip ib hr3
  go_wp2
  go_loopw [9, 10] (fun bv iv wr => ∃ l : List (Int × Value), iv = .int .i64 (l.length : Int) ∧ LB w4.heap.size wr bv l bs ∧ Same0 w4 wr) (fun _ iv _ => bs.length - (intOf iv).toNat)
  case atStart => exact ⟨[], rfl, LB.nil _ _ _, Kept.refl _ _⟩
  case round =>
    obtain ⟨l, rfl, hB, hs⟩ := hrel
    obtain ⟨blo, blc, rfl⟩ := row_shape hB.row
    have KK := K4.trans' hs
    obtain ⟨-, d4, -, ib⟩ := CELLS.out wr KK
    have hlen := hB.len
    by_cases hlt : l.length < bs.length
    · obtain ⟨lb, off, yo, yc, rfl, hlb, c1, c2, c3, -, c5⟩ := ib.get hlt
      have kd : Same0 wr wr.drew := (Kept.refl _ _).drew
      have cL := lent5_at (cap := yc) (c3.same kd) c5 (BE.out _ (List.getElem_mem hlt))
      have hsz0 := hs.size
      have MORE : Hid (∀ w6 w7 (g gc : Nat), Same0 wr w6 → wr.heap.size < w6.heap.size → Row wr.heap.size w6 (.slice (some ⟨wr.heap.size, 0, none⟩) (bs[l.length].2.length + 1) (bs[l.length].2.length + 1)) (bs[l.length].2 ++ [77]) → w7.ownsRow w4.heap.size 46 2 (.slice (some ⟨g, 0, none⟩) (l.length + 1) gc) (l.length + 1) (bcells l ++ [.int .i64 bs[l.length].1, .slice (some ⟨wr.heap.size, 0, none⟩) bs[l.length].2.length (bs[l.length].2.length + 1)]) → Kept (fun k => Value.ownBlock (.slice blo l.length blc) = some k) w6 w7 → (Value.ownBlock (.slice blo l.length blc) = some g ∨ w6.heap.size ≤ g) → ∃ l' : List (Int × Value), l'.length = l.length + 1 ∧ LB w4.heap.size w7 (.slice (some ⟨g, 0, none⟩) (l.length + 1) gc) l' bs ∧ Same0 w4 w7) := fun w6 w7 g gc q1 q2 q3 q4 q5 q6 =>
        ⟨_, by simp, hB.more hlt hsz0 q1 q2 q3 q4 q5 q6, (hs.trans' q1).trans q5 (fun k hk e => by have := (hB.row.lt k e).1; omega)⟩
      have RW6 : Hid (∀ w6, Same0 wr w6 → w6.ownsRow w4.heap.size 46 2 (.slice blo l.length blc) l.length (bcells l) ∧ w4.heap.size ≤ w6.heap.size ∧ w6.cell? ⟨cb, 4, none⟩ = some (.slice (some ⟨lb, off, none⟩) bs.length bc) ∧ w6.cell? ⟨lb, off + l.length * 2, none⟩ = some (.int .i64 bs[l.length].1)) := fun w6 k6 => ⟨(hB.same k6).row, Nat.le_trans hsz0 k6.size, (CELLS.out w6 (KK.trans' k6)).2.1, (k6.cell (p := ⟨lb, off + l.length * 2, none⟩) hlb (fun f => f)).trans c1⟩
      have d4' : wr.drew.cell? ⟨cb, 4, none⟩ = some (.slice (some ⟨lb, off, none⟩) bs.length bc) := d4
      have c1' : wr.drew.cell? ⟨lb, off + l.length * 2, none⟩ = some (.int .i64 bs[l.length].1) := c1
      have c2' : wr.drew.cell? ⟨lb, off + l.length * 2 + 1, none⟩ = some (.slice yo bs[l.length].2.length yc) := c2
      have i1 : (0 : Int) ≤ (l.length : Int) := by omega
      have i2 : (l.length : Int) < (bs.length : Int) := by omega
      have hl32 : (l.length + 1) * 32 ≤ 140737488355328 := by omega
      clear hB c3 ib c5
      obtain ⟨x, hx⟩ : ∃ x, x = bs[l.length].1 := ⟨_, rfl⟩
      obtain ⟨y, hy⟩ : ∃ y, y = bs[l.length].2 := ⟨_, rfl⟩
      rw [← hx, ← hy] at MORE
      rw [← hx] at RW6 c1' c1
      rw [← hy] at cL c2' c2
      clear hx hy
      have cL' : Calls Try.prog 13 #[.slice yo y.length yc] wr.drew fun e w' => e = .returned (.slice (some ⟨wr.heap.size, 0, none⟩) y.length (y.length + 1)) ∧ wr.heap.size < w'.heap.size ∧ Row wr.heap.size w' (.slice (some ⟨wr.heap.size, 0, none⟩) (y.length + 1) (y.length + 1)) (y ++ [77]) ∧ Same0 wr w' := cL.mono (fun e w' ⟨q1, q2, q3, q4⟩ => ⟨q1, q2, q3, kd.trans' q4⟩)
      clear cL
      go_wp2_with fail
      go_region_law (first | (refine step_bind (by rfl) _ _ (by rfl) w4.heap.size l (.slice blo l.length blc) (by rfl) r6 x (some ⟨wr.heap.size, 0, none⟩) y.length (y.length + 1) (by rfl) s6 hl32 ?_; intro g gc w7 hr7 hk7 hat7; obtain ⟨l', hl', hB', hs'⟩ := MORE.out w6 w7 g gc k6 hlt6 hr6 hr7 hk7 hat7) | (refine step_call5 rfl cL' (by simp [go_sem]) (v := .slice (some ⟨wr.heap.size, 0, none⟩) y.length (y.length + 1)) ?_; rintro e w6 ⟨rfl, hlt6, hr6, k6⟩; refine ⟨rfl, ?_⟩; obtain ⟨r6, s6, t6, u6⟩ := RW6.out w6 k6))
      all_goals
        have E5 : (Value.int .i64 ((l.length : Int) + 1)) = .int .i64 (l'.length : Int) := by rw [hl']; congr 1
        go_wp2
        go_roundw
        case rel => first | exact ⟨l', E5, hB', hs'⟩ | ((repeat apply Exists.intro); exact ⟨⟨l', E5, hB', hs'⟩, rfl⟩)
        case measure => simp [intOf]; omega
    · have hl2 : l.length = bs.length := by omega
      obtain ⟨blo', blc', hv, hBA⟩ := hB.at' hl2
      simp only [Value.slice.injEq] at hv
      obtain ⟨rfl, -, rfl⟩ := hv
      rw [hl2]
      obtain ⟨wq, hwq⟩ : ∃ wq : World, wq = wr := ⟨_, rfl⟩
      rw [← hwq] at hB hs KK hBA d4 ⊢
      have hrowq := Kept.row hs hrow1 (fun _ _ f => f)
      have cA1 := HAP.out wq g1 blo blc KK (row_prefix hrowq) hBA
      clear ib hlt hlen hwq
      go_upto_region 13 with (first | (go_at_call 19; refine cA1.mono ?_; rintro e w5 ⟨xv, rfl, hx5, k5⟩))
      have cA2 := HAP.out w5 g1 blo blc (KK.trans' k5) ((row_prefix hrowq).same k5) (hBA.same k5)
      obtain ⟨xo, xc, rfl, hxi, -, -⟩ := hx5.ints
      clear cA1
      go_upto_region 14 with (first | (go_at_call 19; refine cA2.mono ?_; rintro e w6 ⟨yv, rfl, hy6, k6⟩))
      obtain ⟨yo, yc, rfl, hyi, -, hyb⟩ := hy6.ints
      clear cA2
      have W36 : Same0 w3 w6 := ((k4.trans' hs).trans' k5).trans' k6
      have TRUE' : Hid (∀ (w' : World) (ao bo : Option Addr) (ac bc : Nat), IntsAt w' ao AA → IntsAt w' bo AA → Calls Try.prog 20 #[.slice ao AA.length ac, .slice bo AA.length bc] w' fun e w'' => e = .returned (.bool true) ∧ Same0 w' w'') := fun w' ao bo ac bc h1 h2 => by
        refine (same_any (acap := ac) (bcap := bc) h1 h2 (by unfold maxLen; omega)).mono ?_
        rintro e w'' ⟨rfl, q⟩
        exact ⟨by simp [sameB], q⟩
      have cS1 := TRUE'.out w6 xo wo xc wc (hxi.same k6) (hi3.same W36)
      go_upto_region 15 with (first | (go_at_call 20; refine cS1.mono ?_; rintro e w7 ⟨rfl, k7⟩))
      clear cS1
      have z5 := k5.size
      obtain ⟨B, hBB⟩ : ∃ B : Nat → Prop, B = fun k => Value.ownBlock (.slice xo AA.length xc) = some k := ⟨_, rfl⟩
      have HB : Hid (∀ k, B k ↔ Value.ownBlock (.slice xo AA.length xc) = some k) := fun k => by rw [hBB]
      have HBr : Hid (∀ k, B k → wq.heap.size ≤ k ∧ k < w5.heap.size) := fun k q => hx5.lt k ((HB.out k).1 q)
      have O0 : OverA wq.heap.size (.slice xo AA.length xc) B AA.length w7 w7 := ⟨AA, rfl, Kept.row (k6.trans' k7) hx5 (fun _ _ f => f), fun k e => (HB.out k).2 e, Kept.refl _ _⟩
      clear hBB
      go_wp2
      go_loopw [16] (fun iv wr => ∃ k : Nat, k ≤ AA.length ∧ iv = .int .i64 (k : Int) ∧ OverA wq.heap.size (.slice xo AA.length xc) B AA.length w7 wr) (fun iv _ => AA.length - (intOf iv).toNat)
      case atStart => exact ⟨0, Nat.zero_le _, rfl, O0⟩
      case round =>
        clear O0
        obtain ⟨k, hk, rfl, hO⟩ := hrel
        by_cases hkl : k < AA.length
        · obtain ⟨g, rfl, old, f1, f2⟩ := hO.at hkl
          have hO' := hO.store k 555
          have j1 : (0 : Int) ≤ (k : Int) := by omega
          have j2 : (k : Int) < (AA.length : Int) := by omega
          clear hO
          go_wp2
          exact ⟨⟨k + 1, by omega, by go_num, hO'⟩, by simp [intOf]; omega⟩
        · obtain ⟨zs, hzl, hrz, hBz, hKz⟩ := hO
          have kal : Same0 wr (wr.alloc (.cells #[.int .i64 556, .int .i64 556] 3)) := (Kept.refl _ wr).alloc _
          have hrz2 := Kept.row kal hrz (fun _ _ f => f)
          have hy2 := ints_new wr [556, 556] 3 rfl
          have hbs : wq.heap.size ≤ (wr.alloc (.cells #[.int .i64 556, .int .i64 556] 3)).heap.size := by
            have h1 := kal.size
            have h2 := hKz.size
            have h3 := (k6.trans' k7).size
            omega
          have hzz : (zs.length + 2) * 8 ≤ 140737488355328 := by omega
          have HZL : Hid (zs.length = AA.length) := hzl
          clear hzl
          have KB9 : Hid (∀ w9, Kept (fun k => Value.ownBlock (.slice xo AA.length xc) = some k) (wr.alloc (.cells #[.int .i64 556, .int .i64 556] 3)) w9 → Kept B w7 w9) := fun w9 q => (hKz.trans kal (fun _ _ f => f.elim)).trans q (fun i _ e => (HB.out i).2 e)
          go_upto_region 20 with (first | (at_builtin; refine wpList_more rfl _ _ 25 rfl Try.underlying25 wq.heap.size zs _ rfl hrz2 [556, 556] _ _ _ rfl rfl hy2 hbs (by simp; omega) ?_; intro v9 w9 hr9 hk9))
          obtain ⟨vo, vc, rfl⟩ := row_shape hr9
          have K79 := KB9.out w9 hk9
          have Kq9 : Same0 wq w9 := Same0.after ((k5.trans' k6).trans' k7) K79 (fun i hi q => by have := (HBr.out i q).1; omega)
          have hy9 : IntsAt w9 yo AA := ((hyi.same k7).kept K79 (fun a e q => by have := (hyb a e).1; have := (HBr.out _ q).2; omega))
          have cS2 := TRUE'.out w9 yo wo yc wc hy9 (hi3.same ((k4.trans' hs).trans' Kq9))
          go_upto_region 21 with (first | (go_at_call 20; refine cS2.mono ?_; rintro e w10 ⟨rfl, k10⟩))
          have Kq10 := Kq9.trans' k10
          have K10 := KK.trans' Kq10
          obtain ⟨e1, -, ip, -⟩ := CELLS.out w10 K10
          have ck := kept5_any (lcap := pc) (Kept.row Kq10 hrowq (fun _ _ f => f)) ip hps
          go_upto_region 22 with (first | (go_at_call 17; refine ck.mono ?_; rintro e w11 ⟨rfl, k11⟩))
          have Kq11 := Kq10.trans' k11
          have hB11 := hB.same Kq11
          clear ck cS2 hr9 hrz hrz2 hy2 hKz
          have K11 := KK.trans' Kq11
          have EACH : Hid (∀ (w' : World) i (h : i < bs.length), Same0 w11 w' → ∃ vb g lb off yo yc, blo = some ⟨vb, 0, none⟩ ∧ bo = some ⟨lb, off, none⟩ ∧ w'.cell? ⟨vb, i * 2, none⟩ = some (.int .i64 bs[i].1) ∧ w'.cell? ⟨vb, i * 2 + 1, none⟩ = some (.slice (some ⟨g, 0, none⟩) bs[i].2.length (bs[i].2.length + 1)) ∧ w'.cell? ⟨cb, 4, none⟩ = some (.slice bo bs.length bc) ∧ w'.cell? ⟨lb, off + i * 2, none⟩ = some (.int .i64 bs[i].1) ∧ w'.cell? ⟨lb, off + i * 2 + 1, none⟩ = some (.slice yo bs[i].2.length yc) ∧ Calls Try.prog 17 #[.slice (some ⟨g, 0, none⟩) bs[i].2.length (bs[i].2.length + 1), .slice yo bs[i].2.length yc] w' fun e w'' => e = .returned (.bool true) ∧ Same0 w' w'') := fun w' i hi hk => by
            have hil : i < l.length := by omega
            have hBw := hB11.same hk
            obtain ⟨e1, g, e2, e3, -⟩ := hBw.each i hil hi
            obtain ⟨-, f4, -, fb⟩ := CELLS.out w' (K11.trans' hk)
            obtain ⟨lb, off, yo, yc, rfl, -, c1, c2, c3, -, -⟩ := fb.get hi
            obtain ⟨x1, x2⟩ := bcells_at hil
            rcases hBw.row.2 with ⟨-, h0⟩ | ⟨vb, cap, cur, hv, -⟩
            · omega
            · simp only [Value.slice.injEq] at hv
              obtain ⟨rfl, -, -⟩ := hv
              exact ⟨vb, g, lb, off, yo, yc, rfl, rfl, (hBw.row.cellAt (i * 2) (by omega)).trans (by rw [x1, e1]), (hBw.row.cellAt (i * 2 + 1) (by omega)).trans (by rw [x2, e2]), f4, c1, c2, kept5_any (lcap := yc) e3 c3 (BE.out _ (List.getElem_mem hi))⟩
          clear hB11 hB
          go_wp2
          go_loopw [19] (fun iv wr => ∃ i : Nat, i ≤ bs.length ∧ iv = .int .i64 (i : Int) ∧ Same0 w11 wr) (fun iv _ => bs.length - (intOf iv).toNat)
          case atStart => exact ⟨0, Nat.zero_le _, rfl, Kept.refl _ _⟩
          case round =>
            obtain ⟨i, hi, rfl, hs3⟩ := hrel
            by_cases hlt : i < bs.length
            · have kd : Same0 wr wr.drew := (Kept.refl _ _).drew
              obtain ⟨vb, g, lb, off, yo, yc, rfl, rfl, q1, q2, q3, q4, q5, q6⟩ := EACH.out wr.drew i hlt (hs3.trans' kd)
              have i1 : (0 : Int) ≤ (i : Int) := by omega
              have i2 : (i : Int) < (bs.length : Int) := by omega
              have AFT : Hid (∀ w', Same0 wr.drew w' → w'.cell? ⟨vb, i * 2, none⟩ = some (.int .i64 bs[i].1) ∧ w'.cell? ⟨cb, 4, none⟩ = some (.slice (some ⟨lb, off, none⟩) bs.length bc) ∧ w'.cell? ⟨lb, off + i * 2, none⟩ = some (.int .i64 bs[i].1)) := fun w' hk => by
                obtain ⟨vb', g', lb', off', yo', yc', e1, e2, p1, -, p3, p4, -, -⟩ := EACH.out w' i hlt ((hs3.trans' kd).trans' hk)
                cases e1; cases e2
                exact ⟨p1, p3, p4⟩
              have hs4 : Same0 w11 wr.drew := hs3.trans' kd
              obtain ⟨x, hx⟩ : ∃ x, x = bs[i].1 := ⟨_, rfl⟩
              obtain ⟨y, hy⟩ : ∃ y, y = bs[i].2 := ⟨_, rfl⟩
              rw [← hx] at q1 q4 AFT
              rw [← hy] at q2 q5 q6
              clear hx hy EACH
              go_wp2_with fail
              go_cut [20] from 112 to 123 (fun x20 w6 => x20 = .bool true ∧ Same0 wr.drew w6)
              case first =>
                go_region_with (first | (go_at_call 17; refine q6.mono ?_; rintro e w6 ⟨rfl, k6'⟩))
                all_goals
                  go_wp2_with fail
                  go_meet
                  case rel => exact ⟨rfl, k6'⟩
              case rest =>
                obtain ⟨rfl, k6'⟩ := hcut
                obtain ⟨a1, a2, a3⟩ := AFT.out _ k6'
                rename World => w12
                have b1 : w12.drew.cell? ⟨vb, i * 2, none⟩ = some (.int .i64 x) := a1
                have b2 : w12.drew.cell? ⟨cb, 4, none⟩ = some (.slice (some ⟨lb, off, none⟩) bs.length bc) := a2
                have b3 : w12.drew.cell? ⟨lb, off + i * 2, none⟩ = some (.int .i64 x) := a3
                go_wp2
                go_quiet (fail)
                go_wp2
                exact ⟨⟨i + 1, by omega, by go_num, (hs4.trans' k6').drewN _⟩, by simp [intOf]; omega⟩
            · go_wp2
              go_ret
              exact ⟨by simp, FIN.out _ (K11.trans' hs3)⟩
end Go.Proofs.Ytbcchplcppogoaa
