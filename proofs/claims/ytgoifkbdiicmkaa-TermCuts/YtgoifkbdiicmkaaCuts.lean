/- The walk of TermCuts. -/
import Derived.Test.YtgoifkbdiicmkaaRefPath
import Derived.Test.YtgoifkbdiicmkaaRefPut
import Derived.Test.YtgoifkbdiicmkaaPuts
namespace Go.Proofs.Ytgoifkbdiicmkaa
set_option linter.unusedVariables false
open Go.RowKit
attribute [local go_sem ↓] Go.wp_at_zero Go.wp_at_succ
/-- The own block of a row lies between two sizes of the heap. -/
def Rng (lo hi : Nat) (v : Value) : Prop := ∀ k, v.ownBlock = some k → lo ≤ k ∧ k < hi
theorem Row.rng {w w' : World} {v : Value} {xs : List Int} (h : Row w.heap.size w' v xs) : Rng w.heap.size w'.heap.size v := fun k e => h.lt k e
theorem rng_nil (lo hi : Nat) : Rng lo hi (.slice none 0 0) := fun k e => by simp [Value.ownBlock] at e
theorem row_nil (base : Nat) (w : World) : Row base w (.slice none 0 0) [] := World.ownsRow_nil _ _ _ _
/-- What is known when the list is lent. -/
structure CutsAt (w wi : World) (cb g n b : Nat) (rv : Value) (L : List Sym) (so : Option Addr) (tc : Nat) (t : List Int) (at' : Int) (a0 a3 a4 : Value) : Prop where
  box : wi.heap[cb]? = some (.cells #[a0, .slice so t.length tc, .int .i64 at', a3, a4] 27 (0, 0))
  t' : Arg wi so t tc
  sg : Sg n wi b L
  rl : Rl n wi rv L
  rt : Row w.heap.size wi (.slice (some ⟨g, 0, none⟩) (t.length + 1) (t.length + 1)) (t ++ [77])
  so' : ∀ a, so = some a → t = [] ∨ a.block < w.heap.size
  cb' : w.heap.size ≤ cb
  cg : cb < g
  k : Same0 w wi
section
variable {w wi : World} {cb g n b : Nat} {rv : Value} {L : List Sym} {so : Option Addr} {tc : Nat} {t : List Int} {at' : Int} {a0 a3 a4 : Value}
theorem CutsAt.same (h : CutsAt w wi cb g n b rv L so tc t at' a0 a3 a4) {wj : World} (k : Same0 wi wj) : CutsAt w wj cb g n b rv L so tc t at' a0 a3 a4 :=
  ⟨k.at h.box (fun f => f), h.t'.same k, h.sg.same k, h.rl.same k, Kept.row k h.rt (fun _ _ f => f), h.so', h.cb', h.cg, h.k.trans' k⟩
theorem CutsAt.cells (h : CutsAt w wi cb g n b rv L so tc t at' a0 a3 a4) : wi.cell? ⟨cb, 1, none⟩ = some (.slice so t.length tc) ∧ wi.cell? ⟨cb, 2, none⟩ = some (.int .i64 at') := ⟨cellAt h.box 1, cellAt h.box 2⟩
/-- What the three calls of apart and kept leave. -/
theorem CutsAt.rest (h : CutsAt w wi cb g n b rv L so tc t at' a0 a3 a4) {va vb vA vu vv vS vp vq vP : Value} {xa xu xp : List Int} {s0 s1 s2 s3 s4 s5 s6 : Nat}
    (ra : Row w.heap.size wi va xa) (rb : Row w.heap.size wi vb xa) (rA : Row w.heap.size wi vA xa) (ru : Row w.heap.size wi vu xu) (rv' : Row w.heap.size wi vv xu) (rS : Row w.heap.size wi vS xu) (rp : Row w.heap.size wi vp xp) (rq : Row w.heap.size wi vq xp) (rP : Row w.heap.size wi vP xp)
    (gA : Rng (g + 1) s0 vA) (gS : Rng (g + 1) s0 vS) (gP : Rng (g + 1) s0 vP) (ga : Rng s0 s1 va) (gb : Rng s1 s2 vb) (gu : Rng s2 s3 vu) (gv : Rng s3 s4 vv) (gp : Rng s4 s5 vp) (gq : Rng s5 s6 vq) (o0 : g < s0) (o1 : s0 ≤ s1) (o2 : s1 ≤ s2) (o3 : s2 ≤ s3) (o4 : s3 ≤ s4) (o5 : s4 ≤ s5) (o6 : s5 ≤ s6)
    (la : xa.length ≤ 2000) (lu : xu.length ≤ 2000) (lp : xp.length ≤ 2000) :
    (Calls Try.prog 26 #[va, vb, vA] wi fun e w' => e = .returned (.bool true) ∧ Kept (fun k => va.ownBlock = some k) wi w') ∧
    ∀ w1, Kept (fun k => va.ownBlock = some k) wi w1 → (Calls Try.prog 26 #[vu, vv, vS] w1 fun e w' => e = .returned (.bool true) ∧ Kept (fun k => vu.ownBlock = some k) w1 w') ∧
    ∀ w2, Kept (fun k => vu.ownBlock = some k) w1 w2 → (Calls Try.prog 26 #[vp, vq, vP] w2 fun e w' => e = .returned (.bool true) ∧ Kept (fun k => vp.ownBlock = some k) w2 w') ∧
    ∀ w3, Kept (fun k => vp.ownBlock = some k) w2 w3 → (w3.cell? ⟨cb, 1, none⟩ = some (.slice so t.length tc) ∧ Calls Try.prog 16 #[.slice (some ⟨g, 0, none⟩) t.length (t.length + 1), .slice so t.length tc] w3 fun e w' => e = .returned (.bool true) ∧ Below w.heap.size w w') := by
  have z := h.k.size
  have gl := h.rt.lt g rfl
  refine ⟨apart_rows ra rb rA z (fun k e => ⟨fun e' => by have := ga k e; have := gb k e'; omega, fun e' => by have := ga k e; have := gA k e'; omega⟩) (by omega), fun w1 k1 => ⟨?_, fun w2 k2 => ⟨?_, fun w3 k3 => ?_⟩⟩⟩
  · have z1 := k1.size
    refine apart_rows (k1.row ru (fun k e e' => ?_)) (k1.row rv' (fun k e e' => ?_)) (k1.row rS (fun k e e' => ?_)) (by omega) (fun k e => ⟨fun e' => ?_, fun e' => ?_⟩) (by omega)
    · have := ga k e'; have := gu k e; omega
    · have := ga k e'; have := gv k e; omega
    · have := ga k e'; have := gS k e; omega
    · have := gu k e; have := gv k e'; omega
    · have := gu k e; have := gS k e'; omega
  · have z1 := k1.size
    have z2 := k2.size
    refine apart_rows (k2.row (k1.row rp (fun k e e' => ?_)) (fun k e e' => ?_)) (k2.row (k1.row rq (fun k e e' => ?_)) (fun k e e' => ?_)) (k2.row (k1.row rP (fun k e e' => ?_)) (fun k e e' => ?_)) (by omega) (fun k e => ⟨fun e' => ?_, fun e' => ?_⟩) (by omega)
    · have := ga k e'; have := gp k e; omega
    · have := gu k e'; have := gp k e; omega
    · have := ga k e'; have := gq k e; omega
    · have := gu k e'; have := gq k e; omega
    · have := ga k e'; have := gP k e; omega
    · have := gu k e'; have := gP k e; omega
    · have := gp k e; have := gq k e'; omega
    · have := gp k e; have := gP k e'; omega
  · have na : ∀ k, k ≤ g → va.ownBlock ≠ some k := fun k hk e => by have := ga k e; omega
    have nu : ∀ k, k ≤ g → vu.ownBlock ≠ some k := fun k hk e => by have := gu k e; omega
    have np : ∀ k, k ≤ g → vp.ownBlock ≠ some k := fun k hk e => by have := gp k e; omega
    have hcg := h.cg
    have b3 := k3.at (k2.at (k1.at h.box (na cb (by omega))) (nu cb (by omega))) (np cb (by omega))
    have hg1 : ∀ k, Value.ownBlock (.slice (some ⟨g, 0, none⟩) (t.length + 1) (t.length + 1)) = some k → k ≤ g := fun k e => by simp [Value.ownBlock] at e; omega
    have r3 := k3.row (k2.row (k1.row h.rt (fun k e => na k (hg1 k e))) (fun k e => nu k (hg1 k e))) (fun k e => np k (hg1 k e))
    have i3 : IntsAt w3 so t := by
      have hs := h.so'
      refine ((h.t'.at'.kept' k1 ?_).kept' k2 ?_).kept' k3 ?_
      · intro a e; rcases hs a e with e1 | e1
        · exact .inl e1
        · exact .inr (na _ (by omega))
      · intro a e; rcases hs a e with e1 | e1
        · exact .inl e1
        · exact .inr (nu _ (by omega))
      · intro a e; rcases hs a e with e1 | e1
        · exact .inl e1
        · exact .inr (np _ (by omega))
    refine ⟨cellAt b3 1, (kept_any r3 i3 h.t'.size).mono ?_⟩
    rintro e w4 ⟨rfl, k4⟩
    refine ⟨rfl, ?_⟩
    have s1 := Same0.after h.k k1 (fun i hi e => na i (by omega) e)
    have s2 := Same0.after s1 k2 (fun i hi e => nu i (by omega) e)
    have s3 := Same0.after s2 k3 (fun i hi e => np i (by omega) e)
    exact (Same0.after s3 k4 (fun i hi e => by omega)).below
end
theorem argsA_le {L : List Sym} (ha : Ars L) (t : List Int) (a : Int) : (argsA L t a).length ≤ 2000 := by
  unfold argsA
  split
  · have : (ofN (argsN L t a.toNat)).length ≤ 6 := by simp [ofN, argsN, starts_length]; exact arN_le ha _
    omega
  · simp
theorem subA_le (L : List Sym) (t : List Int) (a : Int) : (subA L t a).length ≤ 2000 := by
  unfold subA
  split
  · rename_i h
    obtain ⟨p, rfl, hp, _, h1, h2⟩ := place_zero h
    simp only [Int.toNat_natCast]
    rw [sub_length h2 hp]
    have := endN_le h2 hp
    omega
  · simp
theorem pathA_le (L : List Sym) (t : List Int) (a : Int) : (pathA L t a).length ≤ 2000 := by
  unfold pathA
  split
  · rename_i h
    obtain ⟨p, rfl, hp, _, h1, h2⟩ := place_zero h
    rw [firsts_length]
    have := way_length L t p (by omega)
    simpa using (by omega : (way L t p).length ≤ 2000)
  · simp
set_option maxRecDepth 8000 in
set_option maxHeartbeats 8000000 in
theorem cuts_walk (v : Value) (w : World) {lo : Option Addr} {ll lc : Nat} {ls : List Sym} {so : Option Addr} {tc : Nat} {t : List Int} {at' : Int} {uo : Option Addr} {uc : Nat} {u : List Int} {po : Option Addr} {pc : Nat} {path : List Int} (hc : CaseIs w v lo ll lc ls so tc t at' uo uc u po pc path) :
    Calls Try.prog 5 #[v] w fun e w' => e = .returned (.bool true) ∧ Below w.heap.size w w' := by
  obtain ⟨rfl, hsy, hsl, ht, hu, hp⟩ := hc
  obtain ⟨wb, hwb⟩ : ∃ wb, wb = w.alloc (.cells #[.slice lo ll lc, .slice so t.length tc, .int .i64 at', .slice uo u.length uc, .slice po path.length pc] 27) := ⟨_, rfl⟩
  have kb : Same0 w wb := by rw [hwb]; exact (Kept.refl _ w).alloc _
  have hbox : wb.heap[w.heap.size]? = some (.cells #[.slice lo ll lc, .slice so t.length tc, .int .i64 at', .slice uo u.length uc, .slice po path.length pc] 27 (0, 0)) := by rw [hwb]; exact heap_alloc_new w _
  go_enter Try.func5, Try.ntmps5
  go_wp2_with fail
  rw [← hwb]
  generalize hcb : w.heap.size = cb at *
  clear hwb
  refine (awake2_any _).mono ?_
  rintro e w1 ⟨rfl, k1⟩
  obtain ⟨d0, _, _, _, _⟩ := case_cells hbox k1 (fun f => f)
  go_wp2_with fail
  refine (made_any lo ll lc ls w1 (hsy.same (kb.trans' k1)) hsl).mono ?_
  rintro e w2 ⟨b, rv, rfl, hsg, hrl, k2⟩
  obtain ⟨L0, hL0⟩ : ∃ L0, L0 = madeL ls := ⟨_, rfl⟩
  rw [← hL0] at hsg hrl
  clear hL0
  have K2 := k1.trans' k2
  clear d0
  obtain ⟨_, d1, _, _, _⟩ := case_cells hbox K2 (fun f => f)
  go_wp2_with fail
  refine (lent_any (ht.at'.same (kb.trans' K2)) ht.nil ht.size).mono ?_
  rintro e w3 ⟨g, rfl, hg1, hg2, hrt, k3⟩
  have K3 := K2.trans' k3
  have z2 := (kb.trans' K2).size
  have zb := lt_of_at hbox
  have z2b := K2.size
  have CA : CutsAt w w3 cb g w2.heap.size b rv L0 so tc t at' (.slice lo ll lc) (.slice uo u.length uc) (.slice po path.length pc) :=
    ⟨K3.at hbox (fun f => f), ht.same (kb.trans' K3), hsg.same k3, hrl.same k3, row_mono hrt z2, ht.at'.old, by omega, by omega, kb.trans' K3⟩
  clear d1 hrt hsg hrl K3 k3 hg1 K2 k2 k1 kb hbox hsy hsl ht hu hp z2 zb z2b hcb
  have mT := maxLen_of CA.t'.size
  obtain ⟨d1, d2⟩ := CA.cells
  have cpl := places_any (cap := tc) CA.rl CA.t'.at' mT at'
  generalize w2.heap.size = n at CA
  by_cases hz : placeE L0 t at' = 0
  · obtain ⟨p, hpe, hpl, h0, h1, h2⟩ := place_zero hz
    subst hpe
    rw [hz] at cpl
    have cE := rend_any (cap := tc) CA.rl CA.t'.at' h1 p (by omega)
    have cA := rargs_any (cap := tc) CA.rl CA.t'.at' h1 h2 p hpl
    have EA : Hid (argsA L0 t p = ofN (argsN L0 t p)) := by show _ = _; rw [argsA, if_pos hz]; rfl
    have ES : Hid (subA L0 t p = subN L0 t p) := by show _ = _; rw [subA, if_pos hz]; rfl
    have EP : Hid (pathA L0 t p = firsts (way L0 t p)) := by show _ = _; rw [pathA, if_pos hz]; rfl
    have EE : Hid (endA L0 t p = (endN L0 t p : Int)) := by show _ = _; rw [endA, if_pos hz]; rfl
    rw [← EE.out] at cE
    rw [← EA.out] at cA
    go_upto_region 13 with (first
      | (go_at_call 17; refine cpl.mono ?_; rintro e w3 ⟨rfl, rfl⟩)
      | (go_at_call 18; refine cE.mono ?_; rintro e w3 ⟨rfl, rfl⟩)
      | (go_at_call 19; refine cA.mono ?_; rintro e w4 ⟨vA, rfl, rA, k4⟩))
    have CA4 := CA.same k4
    have gA := rA.rng
    have cS := rsub_any (cap := tc) CA4.rl CA4.t'.at' h1 CA4.t'.cap' h2 p hpl
    rw [← ES.out] at cS
    clear cpl cE cA d1 d2
    obtain ⟨d1, d2⟩ := CA4.cells
    go_upto_region 14 with (first
      | (go_at_call 20; refine cS.mono ?_; rintro e w5 ⟨vS, rfl, rS, k5⟩))
    have CA5 := CA4.same k5
    have gS := rS.rng
    have cP := rpath_any (cap := tc) CA5.rl CA5.t'.at' h1 h2 p hpl
    rw [← EP.out] at cP
    clear cS d1 d2
    obtain ⟨d1, d2⟩ := CA5.cells
    go_upto_region 15 with (first
      | (go_at_call 21; refine cP.mono ?_; rintro e w6 ⟨vP, rfl, rP, k6⟩))
    have CA6 := CA5.same k6
    have gP := rP.rng
    clear cP d1 d2 EA ES EP EE
    have zg := (CA.rt.lt g rfl).2
    have z4 := k4.size
    have z5 := k5.size
    have z6 := k6.size
    have zw := CA.k.size
    have rA6 : Row w.heap.size w6 vA (argsA L0 t p) := row_mono (Kept.row k6 (Kept.row k5 rA (fun _ _ f => f)) (fun _ _ f => f)) (by omega)
    have rS6 : Row w.heap.size w6 vS (subA L0 t p) := row_mono (Kept.row k6 rS (fun _ _ f => f)) (by omega)
    have rP6 : Row w.heap.size w6 vP (pathA L0 t p) := row_mono rP (by omega)
    have gA6 : Rng (g + 1) w6.heap.size vA := fun k e => by have := gA k e; omega
    have gS6 : Rng (g + 1) w6.heap.size vS := fun k e => by have := gS k e; omega
    have gP6 : Rng (g + 1) w6.heap.size vP := fun k e => by have := gP k e; omega
    have zg6 : g < w6.heap.size := by omega
    clear CA CA4 CA5 k4 k5 k6 rA rS rP gA gS gP zg z4 z5 z6 zw
    have zw6 := CA6.k.size
    obtain ⟨d1, d2⟩ := CA6.cells
    have la := argsA_le CA6.sg.2 t p
    have lu := subA_le L0 t p
    have lp := pathA_le L0 t p
    have cN := tend_any (cap := t.length + 1) CA6.sg (row_prefix CA6.rt) mT p
    rw [hz] at cN
    go_wp2_with fail
    refine cN.mono ?_
    rintro e w7 ⟨rfl, k7⟩
    have CA7 := CA6.same k7
    clear cN d1 d2
    obtain ⟨d1, d2⟩ := CA7.cells
    have ca := args_any (cap := t.length + 1) CA7.sg (row_prefix CA7.rt) mT p
    rw [hz] at ca
    go_wp2_with fail
    refine ca.mono ?_
    rintro e w8 ⟨va, rfl, ra, k8⟩
    have CA8 := CA7.same k8
    have ga := ra.rng
    have z8 := k8.size
    clear ca d1 d2
    obtain ⟨d1, d2⟩ := CA8.cells
    have cb := args_any (cap := t.length + 1) CA8.sg (row_prefix CA8.rt) mT p
    rw [hz] at cb
    go_wp2_with fail
    refine cb.mono ?_
    rintro e w9 ⟨vb, rfl, rb, k9⟩
    have CA9 := CA8.same k9
    have gb := rb.rng
    have z9 := k9.size
    clear cb d1 d2
    obtain ⟨d1, d2⟩ := CA9.cells
    have cu := sub_any (cap := t.length + 1) CA9.sg (row_prefix CA9.rt) mT (by omega) p
    rw [hz] at cu
    go_wp2_with fail
    refine cu.mono ?_
    rintro e w10 ⟨vu, rfl, ru, k10⟩
    have CA10 := CA9.same k10
    have gu := ru.rng
    have z10 := k10.size
    clear cu d1 d2
    obtain ⟨d1, d2⟩ := CA10.cells
    have cv := sub_any (cap := t.length + 1) CA10.sg (row_prefix CA10.rt) mT (by omega) p
    rw [hz] at cv
    go_wp2_with fail
    refine cv.mono ?_
    rintro e w11 ⟨vv, rfl, rv, k11⟩
    have CA11 := CA10.same k11
    have gv := rv.rng
    have z11 := k11.size
    clear cv d1 d2
    obtain ⟨d1, d2⟩ := CA11.cells
    have cp := tpath_any (cap := t.length + 1) CA11.sg (row_prefix CA11.rt) mT (by omega) p
    rw [hz] at cp
    go_wp2_with fail
    refine cp.mono ?_
    rintro e w12 ⟨vp, rfl, rp, k12⟩
    have CA12 := CA11.same k12
    have gp := rp.rng
    have z12 := k12.size
    clear cp d1 d2
    obtain ⟨d1, d2⟩ := CA12.cells
    have cq := tpath_any (cap := t.length + 1) CA12.sg (row_prefix CA12.rt) mT (by omega) p
    rw [hz] at cq
    go_wp2_with fail
    refine cq.mono ?_
    rintro e w13 ⟨vq, rfl, rq, k13⟩
    have CA13 := CA12.same k13
    have gq := rq.rng
    have z13 := k13.size
    clear cq d1 d2
    obtain ⟨d1, d2⟩ := CA13.cells
    have z7 := k7.size
    have K13 : Same0 w6 w13 := ((((((k7.trans' k8).trans' k9).trans' k10).trans' k11).trans' k12).trans' k13)
    have Ra : Row w.heap.size w13 va (argsA L0 t p) := row_mono (Kept.row k13 (Kept.row k12 (Kept.row k11 (Kept.row k10 (Kept.row k9 ra (fun _ _ f => f)) (fun _ _ f => f)) (fun _ _ f => f)) (fun _ _ f => f)) (fun _ _ f => f)) (by omega)
    have Rb : Row w.heap.size w13 vb (argsA L0 t p) := row_mono (Kept.row k13 (Kept.row k12 (Kept.row k11 (Kept.row k10 rb (fun _ _ f => f)) (fun _ _ f => f)) (fun _ _ f => f)) (fun _ _ f => f)) (by omega)
    have Ru : Row w.heap.size w13 vu (subA L0 t p) := row_mono (Kept.row k13 (Kept.row k12 (Kept.row k11 ru (fun _ _ f => f)) (fun _ _ f => f)) (fun _ _ f => f)) (by omega)
    have Rv : Row w.heap.size w13 vv (subA L0 t p) := row_mono (Kept.row k13 (Kept.row k12 rv (fun _ _ f => f)) (fun _ _ f => f)) (by omega)
    have Rp : Row w.heap.size w13 vp (pathA L0 t p) := row_mono (Kept.row k13 rp (fun _ _ f => f)) (by omega)
    have Rq : Row w.heap.size w13 vq (pathA L0 t p) := row_mono rq (by omega)
    have RA : Row w.heap.size w13 _ _ := Kept.row K13 rA6 (fun _ _ f => f)
    have RS : Row w.heap.size w13 _ _ := Kept.row K13 rS6 (fun _ _ f => f)
    have RP : Row w.heap.size w13 _ _ := Kept.row K13 rP6 (fun _ _ f => f)
    obtain ⟨q1, rest1⟩ := CA13.rest Ra Rb RA Ru Rv RS Rp Rq RP gA6 gS6 gP6 (fun k e => by have := ga k e; omega) gb gu gv gp gq zg6 (s1 := w8.heap.size) (by omega) z9 z10 z11 z12 z13 la lu lp
    clear Ra Rb RA Ru Rv RS Rp Rq RP ra rb ru rv rp rq rA6 rS6 rP6 ga gb gu gv gp gq gA6 gS6 gP6 K13 CA6 CA7 CA8 CA9 CA10 CA11 CA12 CA13 d1 d2
    go_wp2_with fail
    refine q1.mono ?_
    rintro e w14 ⟨rfl, k14⟩
    obtain ⟨q2, rest2⟩ := rest1 w14 k14
    clear q1 rest1
    go_wp2_with fail
    refine q2.mono ?_
    rintro e w15 ⟨rfl, k15⟩
    obtain ⟨q3, rest3⟩ := rest2 w15 k15
    clear q2 rest2
    go_wp2_with fail
    refine q3.mono ?_
    rintro e w16 ⟨rfl, k16⟩
    obtain ⟨d1, q4⟩ := rest3 w16 k16
    clear q3 rest3
    go_wp2_with fail
    refine q4.mono ?_
    rintro e w17 ⟨rfl, hbel⟩
    clear q4
    go_wp2
    go_ret
    exact ⟨by first | rfl | simp, hbel⟩
  · have hz' : (placeE L0 t at' == 0) = false := by simpa using hz
    have EA : Hid (argsA L0 t at' = []) := by show _ = _; rw [argsA, if_neg hz]
    have ES : Hid (subA L0 t at' = []) := by show _ = _; rw [subA, if_neg hz]
    have EP : Hid (pathA L0 t at' = []) := by show _ = _; rw [pathA, if_neg hz]
    have EE : Hid (endA L0 t at' = 0) := by show _ = _; rw [endA, if_neg hz]
    go_upto_region 15 with (first
      | (go_at_call 17; refine cpl.mono ?_; rintro e w6 ⟨rfl, rfl⟩))
    have CA6 := CA
    have rA6 : Row w.heap.size w6 (.slice none 0 0) (argsA L0 t at') := by rw [EA.out]; exact row_nil _ _
    have rS6 : Row w.heap.size w6 (.slice none 0 0) (subA L0 t at') := by rw [ES.out]; exact row_nil _ _
    have rP6 : Row w.heap.size w6 (.slice none 0 0) (pathA L0 t at') := by rw [EP.out]; exact row_nil _ _
    have gA6 : Rng (g + 1) w6.heap.size (.slice none 0 0) := rng_nil _ _
    have gS6 : Rng (g + 1) w6.heap.size (.slice none 0 0) := rng_nil _ _
    have gP6 : Rng (g + 1) w6.heap.size (.slice none 0 0) := rng_nil _ _
    have zg6 : g < w6.heap.size := (CA.rt.lt g rfl).2
    clear CA d1 d2 cpl EA ES EP
    have zw6 := CA6.k.size
    obtain ⟨d1, d2⟩ := CA6.cells
    have la := argsA_le CA6.sg.2 t at'
    have lu := subA_le L0 t at'
    have lp := pathA_le L0 t at'
    have cN := tend_any (cap := t.length + 1) CA6.sg (row_prefix CA6.rt) mT at'
    rw [EE.out] at cN
    go_wp2_with fail
    refine cN.mono ?_
    rintro e w7 ⟨rfl, k7⟩
    have CA7 := CA6.same k7
    clear cN d1 d2
    obtain ⟨d1, d2⟩ := CA7.cells
    have ca := args_any (cap := t.length + 1) CA7.sg (row_prefix CA7.rt) mT at'
    go_wp2_with fail
    refine ca.mono ?_
    rintro e w8 ⟨va, rfl, ra, k8⟩
    have CA8 := CA7.same k8
    have ga := ra.rng
    have z8 := k8.size
    clear ca d1 d2
    obtain ⟨d1, d2⟩ := CA8.cells
    have cb := args_any (cap := t.length + 1) CA8.sg (row_prefix CA8.rt) mT at'
    go_wp2_with fail
    refine cb.mono ?_
    rintro e w9 ⟨vb, rfl, rb, k9⟩
    have CA9 := CA8.same k9
    have gb := rb.rng
    have z9 := k9.size
    clear cb d1 d2
    obtain ⟨d1, d2⟩ := CA9.cells
    have cu := sub_any (cap := t.length + 1) CA9.sg (row_prefix CA9.rt) mT (by omega) at'
    go_wp2_with fail
    refine cu.mono ?_
    rintro e w10 ⟨vu, rfl, ru, k10⟩
    have CA10 := CA9.same k10
    have gu := ru.rng
    have z10 := k10.size
    clear cu d1 d2
    obtain ⟨d1, d2⟩ := CA10.cells
    have cv := sub_any (cap := t.length + 1) CA10.sg (row_prefix CA10.rt) mT (by omega) at'
    go_wp2_with fail
    refine cv.mono ?_
    rintro e w11 ⟨vv, rfl, rv, k11⟩
    have CA11 := CA10.same k11
    have gv := rv.rng
    have z11 := k11.size
    clear cv d1 d2
    obtain ⟨d1, d2⟩ := CA11.cells
    have cp := tpath_any (cap := t.length + 1) CA11.sg (row_prefix CA11.rt) mT (by omega) at'
    go_wp2_with fail
    refine cp.mono ?_
    rintro e w12 ⟨vp, rfl, rp, k12⟩
    have CA12 := CA11.same k12
    have gp := rp.rng
    have z12 := k12.size
    clear cp d1 d2
    obtain ⟨d1, d2⟩ := CA12.cells
    have cq := tpath_any (cap := t.length + 1) CA12.sg (row_prefix CA12.rt) mT (by omega) at'
    go_wp2_with fail
    refine cq.mono ?_
    rintro e w13 ⟨vq, rfl, rq, k13⟩
    have CA13 := CA12.same k13
    have gq := rq.rng
    have z13 := k13.size
    clear cq d1 d2
    obtain ⟨d1, d2⟩ := CA13.cells
    have z7 := k7.size
    have K13 : Same0 w6 w13 := ((((((k7.trans' k8).trans' k9).trans' k10).trans' k11).trans' k12).trans' k13)
    have Ra : Row w.heap.size w13 va (argsA L0 t at') := row_mono (Kept.row k13 (Kept.row k12 (Kept.row k11 (Kept.row k10 (Kept.row k9 ra (fun _ _ f => f)) (fun _ _ f => f)) (fun _ _ f => f)) (fun _ _ f => f)) (fun _ _ f => f)) (by omega)
    have Rb : Row w.heap.size w13 vb (argsA L0 t at') := row_mono (Kept.row k13 (Kept.row k12 (Kept.row k11 (Kept.row k10 rb (fun _ _ f => f)) (fun _ _ f => f)) (fun _ _ f => f)) (fun _ _ f => f)) (by omega)
    have Ru : Row w.heap.size w13 vu (subA L0 t at') := row_mono (Kept.row k13 (Kept.row k12 (Kept.row k11 ru (fun _ _ f => f)) (fun _ _ f => f)) (fun _ _ f => f)) (by omega)
    have Rv : Row w.heap.size w13 vv (subA L0 t at') := row_mono (Kept.row k13 (Kept.row k12 rv (fun _ _ f => f)) (fun _ _ f => f)) (by omega)
    have Rp : Row w.heap.size w13 vp (pathA L0 t at') := row_mono (Kept.row k13 rp (fun _ _ f => f)) (by omega)
    have Rq : Row w.heap.size w13 vq (pathA L0 t at') := row_mono rq (by omega)
    have RA : Row w.heap.size w13 _ _ := Kept.row K13 rA6 (fun _ _ f => f)
    have RS : Row w.heap.size w13 _ _ := Kept.row K13 rS6 (fun _ _ f => f)
    have RP : Row w.heap.size w13 _ _ := Kept.row K13 rP6 (fun _ _ f => f)
    obtain ⟨q1, rest1⟩ := CA13.rest Ra Rb RA Ru Rv RS Rp Rq RP gA6 gS6 gP6 (fun k e => by have := ga k e; omega) gb gu gv gp gq zg6 (s1 := w8.heap.size) (by omega) z9 z10 z11 z12 z13 la lu lp
    clear Ra Rb RA Ru Rv RS Rp Rq RP ra rb ru rv rp rq rA6 rS6 rP6 ga gb gu gv gp gq gA6 gS6 gP6 K13 CA6 CA7 CA8 CA9 CA10 CA11 CA12 CA13 d1 d2
    go_wp2_with fail
    refine q1.mono ?_
    rintro e w14 ⟨rfl, k14⟩
    obtain ⟨q2, rest2⟩ := rest1 w14 k14
    clear q1 rest1
    go_wp2_with fail
    refine q2.mono ?_
    rintro e w15 ⟨rfl, k15⟩
    obtain ⟨q3, rest3⟩ := rest2 w15 k15
    clear q2 rest2
    go_wp2_with fail
    refine q3.mono ?_
    rintro e w16 ⟨rfl, k16⟩
    obtain ⟨d1, q4⟩ := rest3 w16 k16
    clear q3 rest3
    go_wp2_with fail
    refine q4.mono ?_
    rintro e w17 ⟨rfl, hbel⟩
    clear q4
    go_wp2
    go_ret
    exact ⟨by first | rfl | simp, hbel⟩
end Go.Proofs.Ytgoifkbdiicmkaa
