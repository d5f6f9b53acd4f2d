import Derived.Test.YthamjjhioafkjaaGreatGCodeViews43
import Derived.Test.YthamjjhioafkjaaGreatGCodeViews11
import Derived.OpenShut
namespace Go.Proofs.YthamjjhioafkjaaGreat
set_option maxRecDepth 100000
set_option linter.unusedVariables false
open Go.RowKit
attribute [local go_sem ↓] Go.wp_at_zero Go.wp_at_succ
def PrsAt (w : World) (qo : Option Addr) (A : List (Int × Int)) : Prop :=
  A = [] ∨ ∃ b off, qo = some ⟨b, off, none⟩ ∧ b < w.heap.size ∧ ∀ i (h : i < A.length), w.cell? ⟨b, off + i * 2, none⟩ = some (.int .i64 A[i].1) ∧ w.cell? ⟨b, off + i * 2 + 1, none⟩ = some (.int .i64 A[i].2)
theorem PrsAt.get {w w' : World} {qo : Option Addr} {A : List (Int × Int)} (h : PrsAt w qo A) (hk : Same0 w w') {i : Nat} (hi : i < A.length) : ∃ b off,qo = some ⟨b,off,none⟩ ∧ w'.cell? ⟨b,off + i * 2,none⟩ = some (.int .i64 A[i].1) ∧ w'.cell? ⟨b,off + i * 2 + 1,none⟩ = some (.int .i64 A[i].2) := by
  rcases h with rfl | ⟨b, off, e, hb, hc⟩
  · simp at hi
  · obtain ⟨c0, c1⟩ := hc i hi
    exact ⟨b, off, e, (hk.cell (p := ⟨b, off + i * 2, none⟩) hb (fun f => f)).trans c0, (hk.cell (p := ⟨b, off + i * 2 + 1, none⟩) hb (fun f => f)).trans c1⟩
set_option maxHeartbeats 16000000 in
theorem views_walk {W : World} {ao : Option Addr} {len cap : Nat} {xs : List Sym} (hx : SymsAt W ao len xs) (hm : len ≤ maxLen) {to' : Option Addr} {tc : Nat} {T : List Int} (ht : Arg W to' T tc) {qo : Option Addr} {qc : Nat} {A : List (Int × Int)} (hq : PrsAt W qo A) (hql : A.length ≤ maxLen) :
    Calls Tryz.prog 7 #[.slice ao len cap,.slice to' T.length tc,.slice qo A.length qc] W fun e w' => e = .returned (.bool true) ∧ Below W.heap.size W w' := by
  have hn1 := sg_nil8
  have htm : T.length ≤ maxLen := by have := ht.size; unfold maxLen; omega
  unfold maxLen at hql
  go_enter Tryz.func7, Tryz.ntmps7
  go_upto_region 2 with (first | (go_at_call 9; refine (awake9_any _).mono ?_; rintro e w0 ⟨rfl, k0⟩))
  have CM := made_both ao len cap xs w0 (hx.same8 k0) hm
  generalize madeL xs = L at CM
  clear hx hm
  go_upto_region 3 with (first | (go_at_call 22; refine CM.mono ?_; rintro e w1 ⟨b, ro, rc, sv, mr, rfl, hsg, hft, hS, hR, hRf, k1⟩))
  go_upto_region 5 with fail
  have CO := over_any hS (ht.same (k0.trans' k1))
  go_upto_region 6 with (first | (go_at_call 23; refine CO.mono ?_; rintro e w2 ⟨ho, hn, hc, go, gn, gc, rfl, hV, k2⟩))
  obtain ⟨w3, hw3⟩ : ∃ w3, w3 = w2.alloc (.cells #[.slice ho hn hc, .slice go gn gc] 70) := ⟨_, rfl⟩
  have k3 : Same0 w2 w3 := by rw [hw3]; exact (Kept.refl _ _).alloc _
  have hb3 : w3.heap[w2.heap.size]? = some (.cells #[.slice ho hn hc, .slice go gn gc] 70 (0, 0)) := by rw [hw3]; exact heap_alloc_new w2 _
  rw [← hw3]
  clear hw3 CO CM
  go_upto_region 7 with (first | (go_at_call 23; refine (over_nil _ _ _ _).mono ?_; rintro e w4 ⟨rfl, k4⟩))
  obtain ⟨w5, hw5⟩ : ∃ w5, w5 = w4.alloc (.cells #[.slice none 0 0, .slice none 0 0] 70) := ⟨_, rfl⟩
  have k5 : Same0 w4 w5 := by rw [hw5]; exact (Kept.refl _ _).alloc _
  have hb5 : w5.heap[w4.heap.size]? = some (.cells #[.slice none 0 0, .slice none 0 0] 70 (0, 0)) := by rw [hw5]; exact heap_alloc_new w4 _
  rw [← hw5]
  clear hw5
  have k15 : Same0 w1 w5 := ((k2.trans' k3).trans' k4).trans' k5
  have k25 : Same0 w2 w5 := (k3.trans' k4).trans' k5
  have k35 : Same0 w3 w5 := k4.trans' k5
  have CD := add_any (hsg.kept k15 (fun _ _ f => f)) ⟨⟨#[108, 97, 116, 101, 114]⟩, 1, false⟩ (by decide)
  go_upto_region 8 with (first | (go_at_call 27; refine CD.mono ?_; rintro e w6 ⟨rfl, sv1, mr1, h1, h2, h3⟩))
  have z1 := k1.size
  have z2 := k2.size
  have z4 := (k2.trans' k3).trans' k4 |>.size
  have hVw : VwAt w1.heap.size w6 L (clsB L T) T (.agg #[.slice ho hn hc, .slice go gn gc]) := (hV.same k25).kept h2 (fun k hk hf => by have := (hft k hf).2; omega)
  have hB10 : w6.heap[w2.heap.size]? = some (.cells #[.slice ho hn hc, .slice go gn gc] 70 (0, 0)) := (h2.block _ (lt_of_at (k35.at0 hb3)) (fun hf => by have := (hft _ hf).2; omega)).trans (k35.at0 hb3)
  have hB11 : w6.heap[w4.heap.size]? = some (.cells #[.slice none 0 0, .slice none 0 0] 70 (0, 0)) := (h2.block _ (lt_of_at hb5) (fun hf => by have := (hft _ hf).2; omega)).trans hb5
  have hRl : Rl w1.heap.size w6 (.slice ro L.length rc) L := ⟨h2.row (hR.same k15).1 (fun k e => hRf k e), hR.2⟩
  have z0 := k0.size
  have KW : Same0 W w6 := Kept.trans ((k0.trans' k1).trans' k15) h2 (fun i hi hf => by have := (hft i hf).1; omega)
  have HB : Hid (∀ ww, Same0 w6 ww → (ww.cell? ⟨w2.heap.size, 0, none⟩ = some (.slice ho hn hc) ∧ ww.cell? ⟨w2.heap.size, 1, none⟩ = some (.slice go gn gc)) ∧ ww.cell? ⟨w4.heap.size, 0, none⟩ = some (.slice none 0 0) ∧ ww.cell? ⟨w4.heap.size, 1, none⟩ = some (.slice none 0 0)) := fun ww hk => by
    have a := hk.at0 hB10
    have b := hk.at0 hB11
    exact ⟨⟨cellAt a 0, cellAt a 1⟩, cellAt b 0, cellAt b 1⟩
  have CH1 : Hid (∀ ww p, Same0 w6 ww → Calls Tryz.prog 28 #[.agg #[.slice ho hn hc, .slice go gn gc], .int .i64 p] ww fun e w' => e = .returned (.tuple #[.int .i64 (headI (clsB L T) T p), .bool false]) ∧ Same0 ww w') := fun ww p hk => head_any (hVw.same hk) p
  have CH0 : Hid (∀ ww p, Same0 w6 ww → Calls Tryz.prog 28 #[.agg #[.slice none 0 0, .slice none 0 0], .int .i64 p] ww fun e w' => e = .returned (.tuple #[.int .i64 (-1), .bool false]) ∧ Same0 ww w') := fun ww p hk => head_any (vw_none 0 ww L T) p
  have CA1 : Hid (∀ ww p m, Same0 w6 ww → Calls Tryz.prog 30 #[.agg #[.slice ho hn hc, .slice go gn gc], .int .i64 p, .int .i64 m] ww fun e w' => e = .returned (.int .i64 (argI L (clsB L T) T p m)) ∧ Same0 ww w') := fun ww p m hk => arg_any (hVw.same hk) p m
  have CA0 : Hid (∀ ww p m, Same0 w6 ww → Calls Tryz.prog 30 #[.agg #[.slice none 0 0, .slice none 0 0], .int .i64 p, .int .i64 m] ww fun e w' => e = .returned (.int .i64 (-1)) ∧ Same0 ww w') := fun ww p m hk => arg_any (vw_none 0 ww L T) p m
  have CRH : Hid (∀ ww p, Same0 w6 ww → Calls Tryz.prog 29 #[.slice ro L.length rc, .slice to' T.length tc, .int .i64 p] ww fun e w' => e = .returned (.int .i64 (headI (clsB L T) T p)) ∧ w' = ww) := fun ww p hk => rhead9_any (hRl.same hk) (ht.same (KW.trans' hk)).at' htm p
  have CRA : Hid (∀ ww p m, Same0 w6 ww → Calls Tryz.prog 31 #[.slice ro L.length rc, .slice to' T.length tc, .int .i64 p, .int .i64 m] ww fun e w' => e = .returned (.int .i64 (argI L (clsB L T) T p m)) ∧ Same0 ww w') := fun ww p m hk => rarg9_any (hRl.same hk) (ht.same (KW.trans' hk)).at' htm p m
  have HQ : Hid (∀ ww, Same0 w6 ww → ∀ i (hi : i < A.length), ∃ b off, qo = some ⟨b, off, none⟩ ∧ ww.cell? ⟨b, off + i * 2, none⟩ = some (.int .i64 A[i].1) ∧ ww.cell? ⟨b, off + i * 2 + 1, none⟩ = some (.int .i64 A[i].2)) := fun ww hk i hi => hq.get (KW.trans' hk) hi
  clear hVw hB10 hB11 hRl hb3 hb5 hsg hft hS hR hRf hV h1 h2 h3 k15 k25 k35 CD ht htm hq
  go_wp2_with fail
  go_loopw [12] (fun i wr => ∃ k : Nat, k ≤ A.length ∧ i = .int .i64 (k : Int) ∧ Same0 w6 wr) (fun i _ => A.length - (intOf i).toNat)
  case atStart => exact ⟨0, Nat.zero_le _, rfl, Kept.refl _ _⟩
  case round =>
    obtain ⟨k, hk, rfl, hs⟩ := hrel
    by_cases hlt : k < A.length
    · obtain ⟨qb, qoff, rfl, a0, a1⟩ := HQ.out wr hs k hlt
      have HQ2 : Hid (∀ ww, Same0 wr ww → ww.cell? ⟨qb, qoff + k * 2, none⟩ = some (.int .i64 A[k].1) ∧ ww.cell? ⟨qb, qoff + k * 2 + 1, none⟩ = some (.int .i64 A[k].2)) := fun ww hw => by
        obtain ⟨b', off', e, c0, c1⟩ := HQ.out ww (hs.trans' hw) k hlt
        cases e
        exact ⟨c0, c1⟩
      have i1 : (0 : Int) ≤ (k : Int) := by omega
      have i2 : (k : Int) < (A.length : Int) := by omega
      generalize A[k].1 = p at *
      generalize A[k].2 = m at *
      obtain ⟨⟨v0, v1⟩, n0, n1⟩ := HB.out wr hs
      have e1 := CH1.out wr p hs
      go_upto_region 13 with (first | (go_at_call 28; refine e1.mono ?_; rintro e w7 ⟨rfl, k7⟩))
      clear e1 v0 v1 n0 n1 a0 a1
      have s7 := hs.trans' k7
      obtain ⟨⟨v0, v1⟩, n0, n1⟩ := HB.out w7 s7
      have e1 := CH0.out w7 p s7
      go_upto_region 14 with (first | (go_at_call 28; refine e1.mono ?_; rintro e w8 ⟨rfl, k8⟩))
      clear e1 v0 v1 n0 n1
      have s8 := s7.trans' k8
      have e1 := CRH.out w8 p s8
      generalize headI (clsB L T) T p = z at *
      have hzz : (z != z) = false := by simp
      go_upto_region 16 with (first | (go_at_call 29; refine e1.mono ?_; rintro e w9 ⟨rfl, rfl⟩))
      clear e1
      have C0 : (w9.cell? ⟨w2.heap.size, 0, none⟩ = some (.slice ho hn hc) ∧ w9.cell? ⟨w2.heap.size, 1, none⟩ = some (.slice go gn gc)) ∧ w9.cell? ⟨qb, qoff + k * 2 + 1, none⟩ = some (.int .i64 m) := ⟨(HB.out w9 s8).1, (HQ2.out w9 (k7.trans' k8)).2⟩
      have kd : Same0 w9 w9.drew := Kept.drew (Kept.refl _ _)
      go_cut [18] from 40 to 109 (fun s18 wc => s18 = .int .i64 (argI L (clsB L T) T p m) ∧ Same0 w9 wc)
      case first =>
        go_region_held3 (fun w' => (w'.cell? ⟨w2.heap.size, 0, none⟩ = some (.slice ho hn hc) ∧ w'.cell? ⟨w2.heap.size, 1, none⟩ = some (.slice go gn gc)) ∧ w'.cell? ⟨qb, qoff + k * 2 + 1, none⟩ = some (.int .i64 m)) (first | exact C0 | exact cc1) (first
          | (go_at_call 30; refine (CA1.out _ p m (s8.trans' kd)).mono ?_; rintro e w10 ⟨rfl, k10⟩; have k910 := kd.trans' k10; have cc1 := And.intro (HB.out w10 (s8.trans' k910)).1 (HQ2.out w10 ((k7.trans' k8).trans' k910)).2))
        all_goals
          go_wp2_with fail
          go_meet
          case rel => exact ⟨rfl, k910⟩
      case rest =>
        obtain ⟨rfl, kc⟩ := hcut
        obtain ⟨wx, rfl⟩ : ∃ wx, wx = wc := ⟨_, rfl⟩
        have sc := s8.trans' kc
        have rk := (k7.trans' k8).trans' kc
        clear C0 kd
        have C0 : (wx.cell? ⟨w4.heap.size, 0, none⟩ = some (.slice none 0 0) ∧ wx.cell? ⟨w4.heap.size, 1, none⟩ = some (.slice none 0 0)) ∧ wx.cell? ⟨qb, qoff + k * 2 + 1, none⟩ = some (.int .i64 m) := ⟨(HB.out wx sc).2, (HQ2.out wx rk).2⟩
        have kd : Same0 wx wx.drew := Kept.drew (Kept.refl _ _)
        go_upto_region 17 with fail
        go_cut [19] from 40 to 109 (fun s19 wc => s19 = .int .i64 (-1) ∧ Same0 wx wc)
        case first =>
          go_region_held3 (fun w' => (w'.cell? ⟨w4.heap.size, 0, none⟩ = some (.slice none 0 0) ∧ w'.cell? ⟨w4.heap.size, 1, none⟩ = some (.slice none 0 0)) ∧ w'.cell? ⟨qb, qoff + k * 2 + 1, none⟩ = some (.int .i64 m)) (first | exact C0 | exact cc1) (first
            | (go_at_call 30; refine (CA0.out _ p m (sc.trans' kd)).mono ?_; rintro e w10 ⟨rfl, k10⟩; have k910 := kd.trans' k10; have cc1 := And.intro (HB.out w10 (sc.trans' k910)).2 (HQ2.out w10 (rk.trans' k910)).2))
          all_goals
            go_wp2_with fail
            go_meet
            case rel => exact ⟨rfl, k910⟩
        case rest =>
          obtain ⟨rfl, kc2⟩ := hcut
          have sc2 := sc.trans' kc2
          have a1 := (HQ2.out wc (rk.trans' kc2)).2
          have e1 := CRA.out wc p m sc2
          clear C0 kd
          generalize argI L (clsB L T) T p m = y at *
          have hyy : (y != y) = false := by simp
          go_wp2_with (first | (go_at_call 31; refine e1.mono ?_; rintro e w11 ⟨rfl, k11⟩))
          go_roundw
          case rel => first | exact ⟨k + 1, by omega, by go_num, sc2.trans' k11⟩ | ((repeat apply Exists.intro); exact ⟨⟨k + 1, by omega, by go_num, sc2.trans' k11⟩, rfl⟩)
          case measure => simp [intOf]; omega
    · go_wp2_with fail
      go_ret
      exact ⟨rfl, (KW.trans' hs).below⟩
end Go.Proofs.YthamjjhioafkjaaGreat
namespace Go.Proofs.YthamjjhioafkjaaGreat
set_option linter.unusedVariables false
open Go.RowKit Go.Deep
section
variable {H : Type} {enc : TypeId × Value → H} {w : World} {spare : Nat → Bool} {held : Bool}
theorem cells_pair : Tryz.prog.cellsOf 83 = 2 := by kernel_rfl
set_option maxRecDepth 100000 in
theorem open_pair {fuel : Nat} {cs : List Value} {x : DataW H × List MemPlace} (h : DataW.trod enc Tryz.prog w 0 spare held fuel 83 cs = some x) :
    ∃ y : Int × Int, cs = [.int .i64 y.1, .int .i64 y.2] := by
  obtain ⟨ys, n, _, _, hl, hn, he⟩ := DataW.trod_array Tryz.underlying83 h
  rw [cells_pair] at hl
  match cs, hl with
  | [c0, c1], _ =>
    have g0 := he 0 (by omega)
    have g1 := he 1 (by omega)
    rw [List.getElem?_eq_getElem (by omega)] at g0 g1
    simp only [cells_int, Nat.zero_mul, Nat.one_mul, List.drop_zero, List.take_succ_cons, List.take_zero, List.drop_succ_cons] at g0 g1
    obtain ⟨a, e0, _, _⟩ := DataW.trod_int Tryz.underlying3 g0
    obtain ⟨b, e1, _, _⟩ := DataW.trod_int Tryz.underlying3 g1
    simp only [List.cons.injEq, and_true] at e0 e1
    exact ⟨(a, b), by rw [e0, e1]⟩
set_option maxRecDepth 100000 in
theorem open_prs {fuel : Nat} {ao : Option Addr} {len cap : Nat} {x : DataW H × List MemPlace} (h : DataW.trod enc Tryz.prog w 0 spare held fuel 79 [.slice ao len cap] = some x) : ∃ A : List (Int × Int),A.length = len ∧ PrsAt w ao A ∧ len ≤ maxLen := by
  rcases open_elems Tryz.underlying79 cells_pair (by omega) h with ⟨rfl, rfl, rfl⟩ | ⟨a, rfl, hl1, hl2, hall⟩
  · exact ⟨[], rfl, .inl rfl, by simp⟩
  · have each : ∀ i, i < len → ∃ y : Int × Int, w.cell? ⟨a.block, a.off + i * 2, none⟩ = some (.int .i64 y.1) ∧ w.cell? ⟨a.block, a.off + i * 2 + 1, none⟩ = some (.int .i64 y.2) := by
      intro i hi
      obtain ⟨_, _, cs, n, y, hl, hcell, hy⟩ := hall i hi
      obtain ⟨s, rfl⟩ := open_pair hy
      exact ⟨s, by simpa using hcell 0 (by omega), by simpa using hcell 1 (by omega)⟩
    obtain ⟨f, hf⟩ := Classical.axiomOfChoice (r := fun (i : Fin len) (y : Int × Int) => w.cell? ⟨a.block, a.off + i * 2, none⟩ = some (.int .i64 y.1) ∧ w.cell? ⟨a.block, a.off + i * 2 + 1, none⟩ = some (.int .i64 y.2)) (fun i => each i i.2)
    refine ⟨List.ofFn f, by simp, ?_, by omega⟩
    by_cases h0 : len = 0
    · subst h0; exact .inl (by simp)
    · obtain ⟨ea, hlt, _⟩ := hall 0 (by omega)
      refine .inr ⟨a.block, a.off, by rw [← ea], hlt, fun i hi => ?_⟩
      have hi' : i < len := by simpa using hi
      have := hf ⟨i, hi'⟩
      simp only [List.getElem_ofFn]
      exact ⟨this.1, this.2⟩
end
end Go.Proofs.YthamjjhioafkjaaGreat
