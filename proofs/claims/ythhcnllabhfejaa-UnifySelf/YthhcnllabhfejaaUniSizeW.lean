/- The walk of package unify's size. -/
import Derived.Test.YthhcnllabhfejaaUniLead
import Derived.Test.YthhcnllabhfejaaUniSize
import Derived.Deep.LoopGhost
namespace Go.Proofs.Ythhcnllabhfejaa
set_option maxRecDepth 100000
set_option linter.unusedVariables false
open Go.RowKit
attribute [local go_sem ↓] Go.wp_at_zero Go.wp_at_succ
def JB.Mem (B : JB) (k : Nat) : Prop := k = B.jb ∨ k = B.sb ∨ k = B.zb
theorem JB.way_mem {B : JB} {k : Nat} (h : B.Way k) : B.Mem k := by
  rcases h with e | e
  · exact .inl e
  · exact .inr (.inl e)
theorem JAt.setSize {L : List Sym} {w : World} {B : JB} {J : List Int} {ld : Int → Int} {sz : Nat → Int} (h : JAt L B w J ld sz) (p : Nat) (v : Int) : JAt L B (w.setCell ⟨B.zb, p, none⟩ (.int .i64 v)) J ld (updN sz p v) ∧ Kept B.Mem w (w.setCell ⟨B.zb, p, none⟩ (.int .i64 v)) := by
  obtain ⟨nx, ρ, h1, h2⟩ := h
  have hk : Kept (fun k => k = B.zb) w (w.setCell ⟨B.zb, p, none⟩ (.int .i64 v)) := Kept.setCell (S := fun k => k = B.zb) (p := ⟨B.zb, p, none⟩) (Kept.refl _ _) (fun _ => rfl) _
  have ap := h1.ap
  exact ⟨⟨nx, ρ, ⟨h1.head.kept hk ap.a4, h1.list.kept hk (fun e => ap.a8 e.symm), h1.ends.kept hk (fun e => ap.a9 e.symm), h1.same.kept hk ap.a7, h1.sizes.set p v, ap⟩, h2⟩, hk.mono (fun _ _ e => .inr (.inr e))⟩
def SizPost (L : List Sym) (B : JB) (J : List Int) (ld : Int → Int) (w : World) (k : Int) (sz' : Nat → Int) (e : Ending) (w' : World) : Prop := e = .returned (.int .i64 k) ∧ JAt L B w' J ld sz' ∧ Kept B.Mem w w'
set_option maxHeartbeats 4000000 in
theorem usize_any {L : List Sym} {B : JB} {J : List Int} {ld : Int → Int} (hT : Trs L J) (hl : LdOk J ld) (hJ : J.length ≤ 4000) : ∀ (n : Nat) (w : World) (sz : Nat → Int) (x k : Int) (sz' : Nat → Int), JAt L B w J ld sz → UPart J x → SzOk sz → sizF L J ld n sz x = some (k, sz') →
    Calls Try.prog 45 #[.pointer (some ⟨B.jb, 0, none⟩), .int .i64 x] w (SizPost L B J ld w k sz') := by
  intro n
  induction n with
  | zero => intro w sz x k sz' _ _ _ e; simp [sizF] at e
  | succ n ih =>
    intro w sz x k sz' h hx hs e
    have cL := leader_any h hx
    have hpx := hl.part x hx
    have hsy := hl.sym x hx
    rw [sizF] at e
    obtain ⟨p, hp⟩ : ∃ p, ld x = p := ⟨_, rfl⟩
    rw [hp] at e cL hpx hsy
    by_cases h1 : p < 0
    · rw [if_pos h1] at e
      simp only [Option.some.injEq, Prod.mk.injEq] at e
      obtain ⟨rfl, rfl⟩ := e
      clear ih h
      go_enter Try.func45, Try.ntmps45
      go_wp2_with (first | (go_at_call 55; refine cL.mono ?_; rintro e w1 ⟨rfl, hj1, hk1⟩))
      go_returns
      exact ⟨rfl, hj1, hk1.mono (fun _ _ f => JB.way_mem f)⟩
    · rw [if_neg h1] at e
      obtain ⟨p, rfl⟩ : ∃ v : Nat, p = (v : Int) := ⟨p.toNat, by omega⟩
      rw [Int.toNat_natCast] at e
      have hpl : p < J.length := by have := hpx.2; omega
      have i1 : (0 : Int) ≤ (p : Int) := by omega
      have i2 : (p : Int) < (J.length : Int) := by omega
      by_cases h2 : sz p ≠ 0
      · rw [if_pos h2] at e
        simp only [Option.some.injEq, Prod.mk.injEq] at e
        obtain ⟨rfl, rfl⟩ := e
        have CC : Hid (∀ w1, JAt L B w1 J ld sz → w1.cell? ⟨B.jb, 202, none⟩ = some (.slice (some ⟨B.zb, 0, none⟩) J.length J.length) ∧ w1.cell? ⟨B.zb, p, none⟩ = some (.int .i64 (sz p))) := by
          rintro w1 ⟨nx, ρ, hC, -⟩
          exact ⟨hC.head.cells.2.2.2.1, (hC.sizes.cell hpl).1⟩
        obtain ⟨v, hv⟩ : ∃ v, sz p = v := ⟨_, rfl⟩
        rw [hv] at CC h2 ⊢
        clear ih h
        go_enter Try.func45, Try.ntmps45
        go_wp2_with (first | (go_at_call 55; refine cL.mono ?_; rintro e w1 ⟨rfl, hj1, hk1⟩; obtain ⟨g1, g2⟩ := CC.out w1 hj1))
        go_returns
        exact ⟨rfl, hj1, hk1.mono (fun _ _ f => JB.way_mem f)⟩
      · rw [if_neg h2] at e
        have h0 : sz p = 0 := by simpa using h2
        cases h3 : sizA (sizF L J ld n) (kidsL L J p) 1 (updN sz p (-1)) with
        | none => simp [h3] at e
        | some v =>
          obtain ⟨s, sz1⟩ := v
          simp only [h3] at e
          have hF := kids_forest hT hpl
          have CC : Hid (∀ w1, JAt L B w1 J ld sz → w1.cell? ⟨B.jb, 202, none⟩ = some (.slice (some ⟨B.zb, 0, none⟩) J.length J.length) ∧ w1.cell? ⟨B.zb, p, none⟩ = some (.int .i64 0) ∧ w1.frozen? ⟨B.zb, p, none⟩ = false) := by
            rintro w1 ⟨nx, ρ, hC, -⟩
            have := hC.sizes.cell hpl
            rw [h0] at this
            exact ⟨hC.head.cells.2.2.2.1, this.1, this.2⟩
          have HE : Hid ((if s = -1 then some (-1, sz1) else some (s, updN sz1 p s)) = some (k, sz')) := e
          have H3 : Hid (sizA (sizF L J ld n) (starts L J (arN L (at' J p)) (p + 1)) 1 (updN sz p (-1)) = some (s, sz1)) := h3
          have hs2 : SzOk (updN sz p (-1)) := hs.upd _ (.inl rfl)
          have IH : Hid (∀ (w : World) (sz : Nat → Int) (x k : Int) (sz' : Nat → Int), JAt L B w J ld sz → UPart J x → SzOk sz → sizF L J ld n sz x = some (k, sz') → Calls Try.prog 45 #[.pointer (some ⟨B.jb, 0, none⟩), .int .i64 x] w (SizPost L B J ld w k sz')) := ih
          clear ih h e h3 h2
          have i3 : (p : Int) < 4000 := by omega
          go_enter Try.func45, Try.ntmps45
          go_upto_region 7 with (first | (go_at_call 55; refine cL.mono ?_; rintro e w1 ⟨rfl, hj1, hk1⟩; obtain ⟨g1, g2, g3⟩ := CC.out w1 hj1))
          obtain ⟨hj2, hk2⟩ := hj1.setSize p (-1)
          obtain ⟨w2, hw2⟩ : ∃ w2, w1.setCell ⟨B.zb, p, none⟩ (.int .i64 (-1)) = w2 := ⟨_, rfl⟩
          rw [hw2] at hj2 hk2 ⊢
          have hK2 : Kept B.Mem w w2 := (hk1.mono (fun _ _ f => JB.way_mem f)).trans hk2 (fun _ _ f => f)
          clear hw2 hk1 hk2 hj1 CC cL g1 g2 g3
          go_wp2_with fail
          go_loopg [6, 7] (arN L (at' J p)) (fun c s6 s7 wr => ∃ (sum : Int) (t : Nat) (sq : Nat → Int), s6 = .int .i64 sum ∧ s7 = .int .i64 (t : Int) ∧ 1 ≤ sum ∧ sum ≤ 2001 ∧ Forest L J c t (endN L J p) ∧ SzOk sq ∧ JAt L B wr J ld sq ∧ Kept B.Mem w wr ∧ Hid (sizA (sizF L J ld n) (starts L J c t) sum sq = some (s, sz1)))
          case atStart => exact ⟨1, p + 1, _, rfl, by go_num, by omega, by omega, hF, hs2, hj2, hK2, H3⟩
          case round =>
            clear hj2 hK2 H3 hs2 hF
            obtain ⟨sum, t, sq, rfl, rfl, hs1, hs2, hF, hsq, hj, hK, HS⟩ := hrel
            obtain ⟨nx, ρ, hC, -⟩ := id hj
            obtain ⟨c0, c1, c2, c3, c4⟩ := hC.head.cells
            have ce := (hC.ends.cell hpl).1
            cases gk with
            | zero =>
              have ht := hF.zero
              have i4 : ¬ (t : Int) < (endN L J p : Int) := by omega
              have hss : sum = s ∧ sq = sz1 := by
                have := HS.out
                simpa [starts, sizA] using this
              obtain ⟨rfl, rfl⟩ := hss
              have hne : ¬ sum = -1 := by omega
              have := HE.out
              rw [if_neg hne] at this
              simp only [Option.some.injEq, Prod.mk.injEq] at this
              obtain ⟨rfl, rfl⟩ := this
              obtain ⟨z1, z2⟩ := hC.sizes.cell hpl
              obtain ⟨y1, y2⟩ := hj.setSize p sum
              have fin : SizPost L B J ld w sum (updN sq p sum) (.returned (.int .i64 sum)) (wr.setCell ⟨B.zb, p, none⟩ (.int .i64 sum)) := ⟨rfl, y1, hK.trans y2 (fun _ _ f => f)⟩
              clear hC hj HS HE hF y1 y2 hK ht
              go_wp2_with fail
              go_returns
              exact fin
            | succ c =>
              have hpos := hF.pos
              obtain ⟨f1, f2, f3⟩ := hF.succ
              have hle := hF.le
              have htl : t < J.length := by omega
              have i4 : (t : Int) < (endN L J p : Int) := by omega
              have i5 : (0 : Int) ≤ (t : Int) := by omega
              have i6 : (t : Int) < (J.length : Int) := by omega
              have ct := (hC.ends.cell htl).1
              have hst := HS.out
              rw [starts, sizA] at hst
              cases hq : sizF L J ld n sq (t : Int) with
              | none => simp [hq] at hst
              | some v =>
                obtain ⟨k1, sq1⟩ := v
                simp only [hq] at hst
                have cS := IH.out wr sq t k1 sq1 hj (part_nat htl) hsq hq
                obtain ⟨o1, o2⟩ := sizF_ok n _ _ _ _ hsq hq
                have HST : Hid ((if k1 = -1 then some (-1, sq1) else sizA (sizF L J ld n) (starts L J c (endN L J t)) (min (sum + k1) 2001) sq1) = some (s, sz1)) := hst
                have CE : Hid (∀ w1, JAt L B w1 J ld sq1 → w1.cell? ⟨B.jb, 1, none⟩ = some (.slice (some ⟨B.eb, 0, none⟩) J.length J.length) ∧ w1.cell? ⟨B.eb, t, none⟩ = some (.int .i64 (endN L J t : Int))) := by
                  rintro w1 ⟨nx, ρ, hC, -⟩
                  exact ⟨hC.head.cells.2.1, (hC.ends.cell htl).1⟩
                clear hst hC hj HS hq hsq
                by_cases hk1 : k1 = -1
                · subst hk1
                  have := HST.out
                  rw [if_pos rfl] at this
                  simp only [Option.some.injEq, Prod.mk.injEq] at this
                  obtain ⟨rfl, rfl⟩ := this
                  have := HE.out
                  rw [if_pos rfl] at this
                  simp only [Option.some.injEq, Prod.mk.injEq] at this
                  obtain ⟨rfl, rfl⟩ := this
                  clear HE HST IH
                  go_wp2_with (first | (go_at_call 45; refine cS.mono ?_; rintro e w3 ⟨rfl, hj3, hk3⟩))
                  go_returns
                  exact ⟨rfl, hj3, hK.trans hk3 (fun _ _ f => f)⟩
                · have := HST.out
                  rw [if_neg hk1] at this
                  have HST2 : Hid (sizA (sizF L J ld n) (starts L J c (endN L J t)) (min (sum + k1) 2001) sq1 = some (s, sz1)) := this
                  have i7 : 1 ≤ k1 := by omega
                  have i8 : k1 ≤ 2001 := by omega
                  clear HST this o2
                  go_upto_region 14 with (first | (go_at_call 45; refine cS.mono ?_; rintro e w3 ⟨rfl, hj3, hk3⟩; obtain ⟨g1, g2⟩ := CE.out w3 hj3))
                  have hK3 := hK.trans hk3 (fun _ _ f => f)
                  clear HE IH hk3 hK cS CE
                  by_cases hm : sum + k1 ≤ 2001
                  · rw [show min (sum + k1) 2001 = sum + k1 by omega] at HST2
                    go_wp2_with fail
                    go_roundg c
                    case measure => omega
                    case rel => exact ⟨_, _, _, by go_num, rfl, by omega, by omega, f3, o1, hj3, hK3, HST2⟩
                  · rw [show min (sum + k1) 2001 = 2001 by omega] at HST2
                    have hm' : 2001 < sum + k1 := by omega
                    go_wp2_with fail
                    go_roundg c
                    case measure => omega
                    case rel => exact ⟨_, _, _, by go_num, rfl, by omega, by omega, f3, o1, hj3, hK3, HST2⟩
end Go.Proofs.Ythhcnllabhfejaa
