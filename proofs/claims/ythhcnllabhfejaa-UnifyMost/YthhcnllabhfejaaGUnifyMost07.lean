import Derived.Test.YthhcnllabhfejaaGUnifyMost05
import Derived.Test.YthhcnllabhfejaaGUnifyMost06
import Derived.Deep.LoopGhost
import Derived.Test.YthhcnllabhfejaaGUnifyMost03
import Derived.Deep.WholeRow
/- The walk of package unify's size. -/
namespace Go.Proofs.Ythhcnllabhfejaa
set_option maxRecDepth 100000
set_option linter.unusedVariables false
open Go.RowKit
attribute [local go_sem ↓] Go.wp_at_zero Go.wp_at_succ
def JB.Mem (B : JB) (k : Nat) : Prop := k = B.jb ∨ k = B.sb ∨ k = B.zb
theorem JB.way_mem {B : JB} {k : Nat} (h : B.Way k) : B.Mem k := by
  rcases h with e | e
  · exact .inl e
  · exact .inr (.inl e)
theorem JAt.setSize {L : List Sym} {w : World} {B : JB} {J : List Int} {ld : Int → Int} {sz : Nat → Int} (h : JAt L B w J ld sz) (p : Nat) (v : Int) : JAt L B (w.setCell ⟨B.zb, p, none⟩ (.int .i64 v)) J ld (updN sz p v) ∧ Kept B.Mem w (w.setCell ⟨B.zb, p, none⟩ (.int .i64 v)) := by
  obtain ⟨nx, ρ, h1, h2⟩ := h
  have hk : Kept (fun k => k = B.zb) w (w.setCell ⟨B.zb, p, none⟩ (.int .i64 v)) := Kept.setCell (S := fun k => k = B.zb) (p := ⟨B.zb, p, none⟩) (Kept.refl _ _) (fun _ => rfl) _
  have ap := h1.ap
  exact ⟨⟨nx, ρ, ⟨h1.head.kept hk ap.a4, h1.list.kept hk (fun e => ap.a8 e.symm), h1.ends.kept hk (fun e => ap.a9 e.symm), h1.same.kept hk ap.a7, h1.sizes.set p v, ap⟩, h2⟩, hk.mono (fun _ _ e => .inr (.inr e))⟩
def SizPost (L : List Sym) (B : JB) (J : List Int) (ld : Int → Int) (w : World) (k : Int) (sz' : Nat → Int) (e : Ending) (w' : World) : Prop := e = .returned (.int .i64 k) ∧ JAt L B w' J ld sz' ∧ Kept B.Mem w w'
set_option maxHeartbeats 4000000 in
theorem usize_any {L : List Sym} {B : JB} {J : List Int} {ld : Int → Int} (hT : Trs L J) (hl : LdOk J ld) (hJ : J.length ≤ 4000) : ∀ (n : Nat) (w : World) (sz : Nat → Int) (x k : Int) (sz' : Nat → Int), JAt L B w J ld sz → UPart J x → SzOk sz → sizF L J ld n sz x = some (k, sz') →
    Calls Try.prog 45 #[.pointer (some ⟨B.jb, 0, none⟩), .int .i64 x] w (SizPost L B J ld w k sz') := by
  intro n
  induction n with
  | zero => intro w sz x k sz' _ _ _ e; simp [sizF] at e
  | succ n ih =>
    intro w sz x k sz' h hx hs e
    have cL := leader_any h hx
    have hpx := hl.part x hx
    have hsy := hl.sym x hx
    rw [sizF] at e
    obtain ⟨p, hp⟩ : ∃ p, ld x = p := ⟨_, rfl⟩
    rw [hp] at e cL hpx hsy
    by_cases h1 : p < 0
    · rw [if_pos h1] at e
      simp only [Option.some.injEq, Prod.mk.injEq] at e
      obtain ⟨rfl, rfl⟩ := e
      clear ih h
      go_enter Try.func45, Try.ntmps45
      go_wp2_with (first | (go_at_call 55; refine cL.mono ?_; rintro e w1 ⟨rfl, hj1, hk1⟩))
      go_returns
      exact ⟨rfl, hj1, hk1.mono (fun _ _ f => JB.way_mem f)⟩
    · rw [if_neg h1] at e
      obtain ⟨p, rfl⟩ : ∃ v : Nat, p = (v : Int) := ⟨p.toNat, by omega⟩
      rw [Int.toNat_natCast] at e
      have hpl : p < J.length := by have := hpx.2; omega
      have i1 : (0 : Int) ≤ (p : Int) := by omega
      have i2 : (p : Int) < (J.length : Int) := by omega
      by_cases h2 : sz p ≠ 0
      · rw [if_pos h2] at e
        simp only [Option.some.injEq, Prod.mk.injEq] at e
        obtain ⟨rfl, rfl⟩ := e
        have CC : Hid (∀ w1, JAt L B w1 J ld sz → w1.cell? ⟨B.jb, 202, none⟩ = some (.slice (some ⟨B.zb, 0, none⟩) J.length J.length) ∧ w1.cell? ⟨B.zb, p, none⟩ = some (.int .i64 (sz p))) := by
          rintro w1 ⟨nx, ρ, hC, -⟩
          exact ⟨hC.head.cells.2.2.2.1, (hC.sizes.cell hpl).1⟩
        obtain ⟨v, hv⟩ : ∃ v, sz p = v := ⟨_, rfl⟩
        rw [hv] at CC h2 ⊢
        clear ih h
        go_enter Try.func45, Try.ntmps45
        go_wp2_with (first | (go_at_call 55; refine cL.mono ?_; rintro e w1 ⟨rfl, hj1, hk1⟩; obtain ⟨g1, g2⟩ := CC.out w1 hj1))
        go_returns
        exact ⟨rfl, hj1, hk1.mono (fun _ _ f => JB.way_mem f)⟩
      · rw [if_neg h2] at e
        have h0 : sz p = 0 := by simpa using h2
        cases h3 : sizA (sizF L J ld n) (kidsL L J p) 1 (updN sz p (-1)) with
        | none => simp [h3] at e
        | some v =>
          obtain ⟨s, sz1⟩ := v
          simp only [h3] at e
          have hF := kids_forest hT hpl
          have CC : Hid (∀ w1, JAt L B w1 J ld sz → w1.cell? ⟨B.jb, 202, none⟩ = some (.slice (some ⟨B.zb, 0, none⟩) J.length J.length) ∧ w1.cell? ⟨B.zb, p, none⟩ = some (.int .i64 0) ∧ w1.frozen? ⟨B.zb, p, none⟩ = false) := by
            rintro w1 ⟨nx, ρ, hC, -⟩
            have := hC.sizes.cell hpl
            rw [h0] at this
            exact ⟨hC.head.cells.2.2.2.1, this.1, this.2⟩
          have HE : Hid ((if s = -1 then some (-1, sz1) else some (s, updN sz1 p s)) = some (k, sz')) := e
          have H3 : Hid (sizA (sizF L J ld n) (starts L J (arN L (at' J p)) (p + 1)) 1 (updN sz p (-1)) = some (s, sz1)) := h3
          have hs2 : SzOk (updN sz p (-1)) := hs.upd _ (.inl rfl)
          have IH : Hid (∀ (w : World) (sz : Nat → Int) (x k : Int) (sz' : Nat → Int), JAt L B w J ld sz → UPart J x → SzOk sz → sizF L J ld n sz x = some (k, sz') → Calls Try.prog 45 #[.pointer (some ⟨B.jb, 0, none⟩), .int .i64 x] w (SizPost L B J ld w k sz')) := ih
          clear ih h e h3 h2
          have i3 : (p : Int) < 4000 := by omega
          go_enter Try.func45, Try.ntmps45
          go_upto_region 7 with (first | (go_at_call 55; refine cL.mono ?_; rintro e w1 ⟨rfl, hj1, hk1⟩; obtain ⟨g1, g2, g3⟩ := CC.out w1 hj1))
          obtain ⟨hj2, hk2⟩ := hj1.setSize p (-1)
          obtain ⟨w2, hw2⟩ : ∃ w2, w1.setCell ⟨B.zb, p, none⟩ (.int .i64 (-1)) = w2 := ⟨_, rfl⟩
          rw [hw2] at hj2 hk2 ⊢
          have hK2 : Kept B.Mem w w2 := (hk1.mono (fun _ _ f => JB.way_mem f)).trans hk2 (fun _ _ f => f)
          clear hw2 hk1 hk2 hj1 CC cL g1 g2 g3
          go_wp2_with fail
          go_loopg [6, 7] (arN L (at' J p)) (fun c s6 s7 wr => ∃ (sum : Int) (t : Nat) (sq : Nat → Int), s6 = .int .i64 sum ∧ s7 = .int .i64 (t : Int) ∧ 1 ≤ sum ∧ sum ≤ 2001 ∧ Forest L J c t (endN L J p) ∧ SzOk sq ∧ JAt L B wr J ld sq ∧ Kept B.Mem w wr ∧ Hid (sizA (sizF L J ld n) (starts L J c t) sum sq = some (s, sz1)))
          case atStart => exact ⟨1, p + 1, _, rfl, by go_num, by omega, by omega, hF, hs2, hj2, hK2, H3⟩
          case round =>
            clear hj2 hK2 H3 hs2 hF
            obtain ⟨sum, t, sq, rfl, rfl, hs1, hs2, hF, hsq, hj, hK, HS⟩ := hrel
            obtain ⟨nx, ρ, hC, -⟩ := id hj
            obtain ⟨c0, c1, c2, c3, c4⟩ := hC.head.cells
            have ce := (hC.ends.cell hpl).1
            cases gk with
            | zero =>
              have ht := hF.zero
              have i4 : ¬ (t : Int) < (endN L J p : Int) := by omega
              have hss : sum = s ∧ sq = sz1 := by
                have := HS.out
                simpa [starts, sizA] using this
              obtain ⟨rfl, rfl⟩ := hss
              have hne : ¬ sum = -1 := by omega
              have := HE.out
              rw [if_neg hne] at this
              simp only [Option.some.injEq, Prod.mk.injEq] at this
              obtain ⟨rfl, rfl⟩ := this
              obtain ⟨z1, z2⟩ := hC.sizes.cell hpl
              obtain ⟨y1, y2⟩ := hj.setSize p sum
              have fin : SizPost L B J ld w sum (updN sq p sum) (.returned (.int .i64 sum)) (wr.setCell ⟨B.zb, p, none⟩ (.int .i64 sum)) := ⟨rfl, y1, hK.trans y2 (fun _ _ f => f)⟩
              clear hC hj HS HE hF y1 y2 hK ht
              go_wp2_with fail
              go_returns
              exact fin
            | succ c =>
              have hpos := hF.pos
              obtain ⟨f1, f2, f3⟩ := hF.succ
              have hle := hF.le
              have htl : t < J.length := by omega
              have i4 : (t : Int) < (endN L J p : Int) := by omega
              have i5 : (0 : Int) ≤ (t : Int) := by omega
              have i6 : (t : Int) < (J.length : Int) := by omega
              have ct := (hC.ends.cell htl).1
              have hst := HS.out
              rw [starts, sizA] at hst
              cases hq : sizF L J ld n sq (t : Int) with
              | none => simp [hq] at hst
              | some v =>
                obtain ⟨k1, sq1⟩ := v
                simp only [hq] at hst
                have cS := IH.out wr sq t k1 sq1 hj (part_nat htl) hsq hq
                obtain ⟨o1, o2⟩ := sizF_ok n _ _ _ _ hsq hq
                have HST : Hid ((if k1 = -1 then some (-1, sq1) else sizA (sizF L J ld n) (starts L J c (endN L J t)) (min (sum + k1) 2001) sq1) = some (s, sz1)) := hst
                have CE : Hid (∀ w1, JAt L B w1 J ld sq1 → w1.cell? ⟨B.jb, 1, none⟩ = some (.slice (some ⟨B.eb, 0, none⟩) J.length J.length) ∧ w1.cell? ⟨B.eb, t, none⟩ = some (.int .i64 (endN L J t : Int))) := by
                  rintro w1 ⟨nx, ρ, hC, -⟩
                  exact ⟨hC.head.cells.2.1, (hC.ends.cell htl).1⟩
                clear hst hC hj HS hq hsq
                by_cases hk1 : k1 = -1
                · subst hk1
                  have := HST.out
                  rw [if_pos rfl] at this
                  simp only [Option.some.injEq, Prod.mk.injEq] at this
                  obtain ⟨rfl, rfl⟩ := this
                  have := HE.out
                  rw [if_pos rfl] at this
                  simp only [Option.some.injEq, Prod.mk.injEq] at this
                  obtain ⟨rfl, rfl⟩ := this
                  clear HE HST IH
                  go_wp2_with (first | (go_at_call 45; refine cS.mono ?_; rintro e w3 ⟨rfl, hj3, hk3⟩))
                  go_returns
                  exact ⟨rfl, hj3, hK.trans hk3 (fun _ _ f => f)⟩
                · have := HST.out
                  rw [if_neg hk1] at this
                  have HST2 : Hid (sizA (sizF L J ld n) (starts L J c (endN L J t)) (min (sum + k1) 2001) sq1 = some (s, sz1)) := this
                  have i7 : 1 ≤ k1 := by omega
                  have i8 : k1 ≤ 2001 := by omega
                  clear HST this o2
                  go_upto_region 14 with (first | (go_at_call 45; refine cS.mono ?_; rintro e w3 ⟨rfl, hj3, hk3⟩; obtain ⟨g1, g2⟩ := CE.out w3 hj3))
                  have hK3 := hK.trans hk3 (fun _ _ f => f)
                  clear HE IH hk3 hK cS CE
                  by_cases hm : sum + k1 ≤ 2001
                  · rw [show min (sum + k1) 2001 = sum + k1 by omega] at HST2
                    go_wp2_with fail
                    go_roundg c
                    case measure => omega
                    case rel => exact ⟨_, _, _, by go_num, rfl, by omega, by omega, f3, o1, hj3, hK3, HST2⟩
                  · rw [show min (sum + k1) 2001 = 2001 by omega] at HST2
                    have hm' : 2001 < sum + k1 := by omega
                    go_wp2_with fail
                    go_roundg c
                    case measure => omega
                    case rel => exact ⟨_, _, _, by go_num, rfl, by omega, by omega, f3, o1, hj3, hK3, HST2⟩
end Go.Proofs.Ythhcnllabhfejaa
/- The walk of package unify's write. -/
namespace Go.Proofs.Ythhcnllabhfejaa
set_option maxRecDepth 100000
set_option linter.unusedVariables false
open Go.RowKit
attribute [local go_sem ↓] Go.wp_at_zero Go.wp_at_succ
def JB.Wr (B : JB) (wb tb : Nat) (k : Nat) : Prop := B.Way k ∨ k = wb ∨ k = tb
def WrPost (L : List Sym) (B : JB) (J : List Int) (ld : Int → Int) (sz : Nat → Int) (base wb tb cap : Nat) (w : World) (out o : List Int) (e : Ending) (w' : World) : Prop := (∃ z, e = .returned z) ∧ JAt L B w' J ld sz ∧ WC base w' wb B.jb tb cap out o ∧ Kept (B.Wr wb tb) w w'
set_option maxHeartbeats 4000000 in
theorem write_any {L : List Sym} {B : JB} {J : List Int} {ld : Int → Int} {sz : Nat → Int} {base wb tb cap : Nat} (hT : Trs L J) (hl : LdOk J ld) (hJ : J.length ≤ 4000) (hwb : ¬ B.Foot wb) (htb : ¬ B.Foot tb) : ∀ (d : Nat) (w : World) (x : Int) (u out o : List Int), JAt L B w J ld sz → UPart J x → tmF L J ld d x = some u → WC base w wb B.jb tb cap out o → out.length + u.length ≤ cap →
    Calls Try.prog 36 #[.pointer (some ⟨wb, 0, none⟩), .int .i64 x] w (WrPost L B J ld sz base wb tb cap w (out ++ wrF o u) (vz o u)) := by
  obtain ⟨i0, hi0, hz0, hz1, hz2⟩ := info_parts info_intW
  have hwy : ¬ B.Way wb := fun f => hwb (by rcases f with e | e; exact .inl e; exact .inr (.inr (.inr (.inl e))))
  have hty : ¬ B.Way tb := fun f => htb (by rcases f with e | e; exact .inl e; exact .inr (.inr (.inr (.inl e))))
  intro d
  induction d with
  | zero => intro w x u out o _ _ e; simp [tmF] at e
  | succ d ih =>
    intro w x u out o h hx e hW hfit
    have cL := leader_any h hx
    have hpx := hl.part x hx
    have hsy := hl.sym x hx
    obtain ⟨c0, c1, c2, c3, c4, c5⟩ := hW.head.cells
    rw [tmF] at e
    obtain ⟨p, hp⟩ : ∃ p, ld x = p := ⟨_, rfl⟩
    rw [hp] at e cL hpx hsy
    by_cases h1 : p < 0
    · rw [if_pos h1] at e
      simp only [Option.some.injEq] at e
      subst e
      obtain ⟨v, rfl⟩ : ∃ v : Nat, p = -(v : Int) := ⟨(-p).toNat, by omega⟩
      have hv1 : 1 ≤ v := by omega
      have hv2 : v < 199 := by have := hpx.1; omega
      have i2 : (v : Int) < 199 := by omega
      have i1 : (1 : Int) ≤ (v : Int) := by omega
      have CV : Hid (∀ w1, JAt L B w1 J ld sz → Kept B.Way w w1 → Calls Try.prog 56 #[.pointer (some ⟨wb, 0, none⟩), .int .i64 (v : Int)] w1 (WrPost L B J ld sz base wb tb cap w (out ++ wrF o [-(v : Int)]) (vz o [-(v : Int)]))) := by
        intro w1 hj hk
        refine (writeVariable_any (hW.kept hk hwy hty) hv1 hv2 (by simpa using hfit)).mono ?_
        rintro e w2 ⟨a1, a2, a3⟩
        exact ⟨a1, hj.kept a3 (fun k hk f => by rcases f with f | f <;> subst f; exact hwb hk; exact htb hk), a2, (hk.mono (fun _ _ f => .inl f)).trans a3 (fun _ _ f => .inr f)⟩
      clear ih h hW
      go_enter Try.func36, Try.ntmps36
      go_wp2_with (first | (go_at_call 55; refine cL.mono ?_; rintro e w1 ⟨rfl, hj1, hk1⟩) | (go_at_call 56; refine (CV.out w1 hj1 hk1).mono ?_; rintro e w2 ⟨⟨z, rfl⟩, hP⟩))
      go_returns
      exact ⟨⟨_, rfl⟩, hP⟩
    · rw [if_neg h1] at e
      obtain ⟨p, rfl⟩ : ∃ v : Nat, p = (v : Int) := ⟨p.toNat, by omega⟩
      rw [Int.toNat_natCast] at e
      cases h2 : argsT (tmF L J ld d) (kidsL L J p) with
      | none => simp [h2] at e
      | some us =>
        simp only [h2, Option.some.injEq] at e
        subst e
        have hpl : p < J.length := by have := hpx.2; omega
        have i1 : (0 : Int) ≤ (p : Int) := by omega
        have i2 : (p : Int) < (J.length : Int) := by omega
        have i3 : (p : Int) < 4000 := by omega
        have hz : 0 ≤ at' J (p : Int) := hsy (by omega)
        have hF := kids_forest hT hpl
        obtain ⟨z, hzz⟩ : ∃ z, at' J (p : Int) = z := ⟨_, rfl⟩
        have IH : Hid (∀ (w : World) (x : Int) (u out o : List Int), JAt L B w J ld sz → UPart J x → tmF L J ld d x = some u → WC base w wb B.jb tb cap out o → out.length + u.length ≤ cap → Calls Try.prog 36 #[.pointer (some ⟨wb, 0, none⟩), .int .i64 x] w (WrPost L B J ld sz base wb tb cap w (out ++ wrF o u) (vz o u))) := ih
        have H2 : Hid (argsT (tmF L J ld d) (starts L J (arN L (at' J p)) (p + 1)) = some us) := h2
        have ew : vzs o z = o := by unfold vzs; rw [if_neg (by omega)]
        have er : rn o z = z := by unfold rn; rw [if_neg (by omega)]
        have e1 : wrF o (at' J (p : Int) :: us) = z :: wrF o us := by rw [wrF, hzz, ew, er]
        have e2 : vz o (at' J (p : Int) :: us) = vz o us := by rw [hzz]; simp only [vz, List.foldl_cons, ew]
        have HO : Hid (out ++ wrF o (at' J (p : Int) :: us) = (out ++ [z]) ++ wrF o us ∧ vz o (at' J (p : Int) :: us) = vz o us) := ⟨by rw [e1]; simp, e2⟩
        obtain ⟨OUT, hOUT⟩ : ∃ O, out ++ wrF o (at' J (p : Int) :: us) = O := ⟨_, rfl⟩
        obtain ⟨OF, hOF⟩ : ∃ O, vz o (at' J (p : Int) :: us) = O := ⟨_, rfl⟩
        rw [hOUT, hOF] at HO ⊢
        obtain ⟨l, hl'⟩ : ∃ l, out.length = l := ⟨_, rfl⟩
        have hf1 : l + 1 ≤ cap := by simp at hfit; omega
        have HF1 : Hid (out.length + 1 + us.length ≤ cap) := by simp at hfit; show _ ≤ _; omega
        have CA : Hid (∀ w1, JAt L B w1 J ld sz → Kept B.Way w w1 → (w1.cell? ⟨wb, 0, none⟩ = some (.pointer (some ⟨B.jb, 0, none⟩)) ∧ w1.cell? ⟨wb, 1, none⟩ = some (.slice (some ⟨tb, 0, none⟩) l cap) ∧ w1.frozen? ⟨wb, 1, none⟩ = false ∧ wb < w1.heap.size) ∧ w1.cell? ⟨B.jb, 0, none⟩ = some (.slice (some ⟨B.lb, 0, none⟩) J.length B.lcap) ∧ w1.cell? ⟨B.lb, p, none⟩ = some (.int .i64 z) ∧ w1.ownsRow base 3 1 (.slice (some ⟨tb, 0, none⟩) l cap) l (iv out) ∧ ∀ w2, w2.ownsRow base 3 1 (.slice (some ⟨tb, 0, none⟩) (l + 1) cap) (l + 1) (iv out ++ [.int .i64 z]) → (w1.alloc (.cells #[.int .i64 z] 3)).drew.grownBy w2 (some tb) → (JAt L B (w2.setCell ⟨wb, 1, none⟩ (.slice (some ⟨tb, 0, none⟩) (l + 1) cap)) J ld sz ∧ WC base (w2.setCell ⟨wb, 1, none⟩ (.slice (some ⟨tb, 0, none⟩) (l + 1) cap)) wb B.jb tb cap (out ++ [z]) o ∧ Kept (B.Wr wb tb) w (w2.setCell ⟨wb, 1, none⟩ (.slice (some ⟨tb, 0, none⟩) (l + 1) cap))) ∧ w2.cell? ⟨wb, 1, none⟩ = some (.slice (some ⟨tb, 0, none⟩) l cap) ∧ w2.frozen? ⟨wb, 1, none⟩ = false) := by
          intro w1 hj hk
          have hW1 := hW.kept hk hwy hty
          obtain ⟨nx, ρ, hC, -⟩ := id hj
          obtain ⟨q0, q1, q2, q3, q4, q5⟩ := hW1.head.cells
          have hcl := (hC.list.cell hpl).1
          rw [hzz] at hcl
          have hr1 := hW1.row
          rw [hl'] at q1 hr1
          refine ⟨⟨q0, q1, q3, q5⟩, hC.head.cells.1, hcl, hr1, fun w2 hr hg => ?_⟩
          have kg : Kept (fun k => k = tb) w1 w2 := Kept.grown (Kept.drew (Kept.alloc (Kept.refl _ w1) _)) hg (fun k e _ => by simpa using e.symm)
          have hH : WH w1 wb B.jb (.slice (some ⟨tb, 0, none⟩) out.length cap) (nmO (vzs o z)) ((vzs o z).length : Int) := by rw [ew]; exact hW1.head
          obtain ⟨b1, b2, b3⟩ := wput_end hH hW1.ne hW1.len hW1.cap (by rw [ew, er, hl']; exact hr) kg
          rw [ew, er, hl'] at b1
          rw [hl'] at b2
          refine ⟨⟨hj.kept b1.2 (fun k hk f => by rcases f with f | f <;> subst f; exact hwb hk; exact htb hk), b1.1, (hk.mono (fun _ _ f => .inl f)).trans b1.2 (fun _ _ f => .inr f)⟩, b2, b3⟩
        clear ih h hW h2 hfit e1 e2 hOUT hOF hzz ew er hl' c1 c2 c3 c4
        go_enter Try.func36, Try.ntmps36
        go_upto_region 3 with (first | (go_at_call 55; refine cL.mono ?_; rintro e w1 ⟨rfl, hj1, hk1⟩))
        obtain ⟨⟨d0, d1, d2, d3⟩, d4, d5, hrow, PE0⟩ := CA.out w1 hj1 hk1
        have PE : Hid (∀ w2, w2.ownsRow base 3 1 (.slice (some ⟨tb, 0, none⟩) (l + 1) cap) (l + 1) (iv out ++ [.int .i64 z]) → (w1.alloc (.cells #[.int .i64 z] 3)).drew.grownBy w2 (some tb) → (JAt L B (w2.setCell ⟨wb, 1, none⟩ (.slice (some ⟨tb, 0, none⟩) (l + 1) cap)) J ld sz ∧ WC base (w2.setCell ⟨wb, 1, none⟩ (.slice (some ⟨tb, 0, none⟩) (l + 1) cap)) wb B.jb tb cap (out ++ [z]) o ∧ Kept (B.Wr wb tb) w (w2.setCell ⟨wb, 1, none⟩ (.slice (some ⟨tb, 0, none⟩) (l + 1) cap))) ∧ w2.cell? ⟨wb, 1, none⟩ = some (.slice (some ⟨tb, 0, none⟩) l cap) ∧ w2.frozen? ⟨wb, 1, none⟩ = false) := PE0
        clear PE0 CA cL hj1 hk1
        go_cut [] from 18 to 36 (fun wc => JAt L B wc J ld sz ∧ WC base wc wb B.jb tb cap (out ++ [z]) o ∧ Kept (B.Wr wb tb) w wc)
        case first =>
          clear IH H2 HO HF1 hF
          go_region_law (refine step_fits (by rfl) _ _ 25 (by rfl) base 3 i0 1 Try.underlying25 hi0 hz1 tb l cap (iv out) (by rfl) ((hrow.alloc _).drew) ⟨w1.heap.size, 0, none⟩ 1 1 [.int .i64 z] (by rfl) (by rfl) (World.news_of_block (cs := #[.int .i64 z]) (t := 3) (fr := (0, 0)) (heap_alloc_new w1 _)) (by simp [Value.oneCell']) hf1 ?_; intro w2 hown hgrow; obtain ⟨hP, g1, g2⟩ := PE.out w2 hown hgrow)
          all_goals
            go_wp2_with fail
            go_meet
            exact hP
        case rest =>
          obtain ⟨hj, hW, hK⟩ := hcut
          clear PE hrow d0 d1 d2 d3 d4 d5
          go_wp2_with fail
          go_loopg [5] (arN L (at' J p)) (fun c s5 wr => ∃ (t : Nat) (out' o' u' : List Int), s5 = .int .i64 (t : Int) ∧ Forest L J c t (endN L J p) ∧ Hid (argsT (tmF L J ld d) (starts L J c t) = some u' ∧ OUT = out' ++ wrF o' u' ∧ OF = vz o' u' ∧ out'.length + u'.length ≤ cap) ∧ JAt L B wr J ld sz ∧ WC base wr wb B.jb tb cap out' o' ∧ Kept (B.Wr wb tb) w wr)
          case atStart => exact ⟨p + 1, out ++ [z], o, us, by go_num, hF, ⟨H2.out, HO.out.1, HO.out.2, by have := HF1.out; simp; omega⟩, hj, hW, hK⟩
          case round =>
            clear hj hW hK H2 HO HF1 hF
            obtain ⟨t, out', o', u', rfl, hF, HS, hj, hW, hK⟩ := hrel
            obtain ⟨nx, ρ, hC, -⟩ := id hj
            obtain ⟨c0, c1, c2, c3, c4⟩ := hC.head.cells
            obtain ⟨b0, b1, b2, b3, b4, b5⟩ := hW.head.cells
            have ce := (hC.ends.cell hpl).1
            cases gk with
            | zero =>
              have ht := hF.zero
              have i4 : ¬ (t : Int) < (endN L J p : Int) := by omega
              have fin : JAt L B wr J ld sz ∧ WC base wr wb B.jb tb cap OUT OF ∧ Kept (B.Wr wb tb) w wr := by
                obtain ⟨a1, a2, a3, a4⟩ := HS.out
                simp only [starts, argsT, Option.some.injEq] at a1
                subst a1
                rw [a2, a3]
                exact ⟨hj, by simpa [wrF, vz] using hW, hK⟩
              obtain ⟨f1, f2, f3⟩ := fin
              clear hC hj HS hF hW ht hK
              go_wp2_with fail
              go_returns
              exact ⟨⟨_, rfl⟩, f1, f2, f3⟩
            | succ c =>
              have hpos := hF.pos
              obtain ⟨f1, f2, f3⟩ := hF.succ
              have hle := hF.le
              have htl : t < J.length := by omega
              have i4 : (t : Int) < (endN L J p : Int) := by omega
              have i5 : (0 : Int) ≤ (t : Int) := by omega
              have i6 : (t : Int) < (J.length : Int) := by omega
              obtain ⟨a1, a2, a3, a4⟩ := HS.out
              rw [starts, argsT] at a1
              cases hq : tmF L J ld d (t : Int) with
              | none => simp [hq] at a1
              | some ua =>
                cases hq2 : argsT (tmF L J ld d) (starts L J c (endN L J t)) with
                | none => simp [hq, hq2] at a1
                | some ub =>
                  simp only [hq, hq2, Option.some.injEq] at a1
                  subst a1
                  have cW := IH.out wr t ua out' o' hj (part_nat htl) hq hW (by simp at a4; omega)
                  have HN : Hid (argsT (tmF L J ld d) (starts L J c (endN L J t)) = some ub ∧ OUT = (out' ++ wrF o' ua) ++ wrF (vz o' ua) ub ∧ OF = vz (vz o' ua) ub ∧ (out' ++ wrF o' ua).length + ub.length ≤ cap) := by
                    refine ⟨hq2, ?_, ?_, ?_⟩
                    · rw [a2, wrF_append, List.append_assoc]
                    · rw [a3, vz_append]
                    · rw [List.length_append, wrF_length]; simp at a4; omega
                  have CE : Hid (∀ w1, JAt L B w1 J ld sz → WC base w1 wb B.jb tb cap (out' ++ wrF o' ua) (vz o' ua) → w1.cell? ⟨wb, 0, none⟩ = some (.pointer (some ⟨B.jb, 0, none⟩)) ∧ w1.cell? ⟨B.jb, 1, none⟩ = some (.slice (some ⟨B.eb, 0, none⟩) J.length J.length) ∧ w1.cell? ⟨B.eb, t, none⟩ = some (.int .i64 (endN L J t : Int))) := by
                    rintro w1 ⟨nx, ρ, hC, -⟩ hw
                    exact ⟨hw.head.cells.1, hC.head.cells.2.1, (hC.ends.cell htl).1⟩
                  clear hC hj HS hq hq2 hW IH a2 a3 a4
                  go_wp2_with (first | (go_at_call 36; refine cW.mono ?_; rintro e w3 ⟨⟨rr, rfl⟩, hj3, hw3, hk3⟩; obtain ⟨g0, g1, g2⟩ := CE.out w3 hj3 hw3))
                  go_roundg c
                  case measure => omega
                  case rel => exact ⟨_, _, _, ub, rfl, f3, HN, hj3, hw3, hK.trans hk3 (fun _ _ f => f)⟩
end Go.Proofs.Ythhcnllabhfejaa
/- What unify, overlap and clash answer, in plain words. -/
namespace Go.Proofs.Ythhcnllabhfejaa
set_option linter.unusedVariables false
/-- Two terms made the same: what leads where, and the size; none: they cannot. -/
def solF (L : List Sym) (J : List Int) (m : Nat) : Option ((Int → Int) × Int) :=
  match uniF L J ((J.length + 1) * J.length + J.length + 3) (ld0 J) [(0, endN L J 0, m)] with
  | some (some ld) =>
    match sizF L J ld (J.length + 1) (fun _ => 0) 0 with
    | some (k, _) => if k = -1 then none else some (ld, k)
    | none => none
  | _ => none
def comE (L : List Sym) (a b : List Int) (ap : Int) : Int :=
  if checkE L a ≠ 0 then checkE L a else if checkE L b ≠ 0 then checkE L b else
  match solF L (jl a b ap) a.length with
  | none => 60
  | some (_, k) => if 2000 < k then 20 else 0
def comT (L : List Sym) (a b : List Int) (ap : Int) : List Int :=
  if comE L a b ap = 0 then
    match solF L (jl a b ap) a.length with
    | none => []
    | some (ld, _) => wrF [] ((tmF L (jl a b ap) ld 2000 0).getD [])
  else []
theorem argsT_depth {L : List Sym} {J : List Int} {ld : Int → Int} {d : Nat} (ih : ∀ (x : Int) (u : List Int), tmF L J ld d x = some u → tmF L J ld u.length x = some u) {n : Nat} : ∀ (l : List Nat) (u : List Int), argsT (tmF L J ld d) l = some u → u.length ≤ n → argsT (tmF L J ld n) l = some u
  | [], u, e, _ => e
  | x :: r, u, e, hn => by
    unfold argsT at e ⊢
    cases h1 : tmF L J ld d (x : Int) with
    | none => simp [h1] at e
    | some a =>
      cases h2 : argsT (tmF L J ld d) r with
      | none => simp [h1, h2] at e
      | some b =>
        simp only [h1, h2, Option.some.injEq] at e
        subst e
        rw [List.length_append] at hn
        have h3 := argsT_depth (n := n) ih r b h2 (by omega)
        simp only [tmF_le (show a.length ≤ n by omega) (ih _ _ h1), h3]
theorem tmF_depth {L : List Sym} {J : List Int} {ld : Int → Int} : ∀ (d : Nat) (x : Int) (u : List Int), tmF L J ld d x = some u → tmF L J ld u.length x = some u := by
  intro d
  induction d with
  | zero => intro x u h; simp [tmF] at h
  | succ d ih =>
    intro x u h
    rw [tmF] at h
    by_cases h1 : ld x < 0
    · rw [if_pos h1] at h
      simp only [Option.some.injEq] at h
      subst h
      show tmF L J ld 1 x = _
      rw [tmF, if_pos h1]
    · rw [if_neg h1] at h
      cases h2 : argsT (tmF L J ld d) (kidsL L J (ld x).toNat) with
      | none => simp [h2] at h
      | some v =>
        simp only [h2, Option.some.injEq] at h
        subst h
        rw [List.length_cons, tmF, if_neg h1, argsT_depth ih _ _ h2 (Nat.le_refl _)]
theorem Val.tm {L : List Sym} {J : List Int} {ld : Int → Int} {x : Int} {u : List Int} (h : Val L J ld x u) {n : Nat} (hn : u.length ≤ n) : tmF L J ld n x = some u := by
  obtain ⟨d, hd⟩ := h
  exact tmF_le hn (tmF_depth d x u hd)
/-- What solve has, in plain words. -/
structure Sol (L : List Sym) (J : List Int) (m : Nat) : Prop where
  uni : ∃ res, UOk L J res ((J.length + 1) * J.length + J.length + 3) (ld0 J) [(0, endN L J 0, m)] ∧ (res = none → solF L J m = none) ∧ ∀ ld, res = some ld → LdOk J ld ∧ ∃ k sz', sizF L J ld (J.length + 1) (fun _ => 0) 0 = some (k, sz') ∧ (k = -1 → solF L J m = none) ∧ (k ≠ -1 → solF L J m = some (ld, k) ∧ ∃ u, Val L J ld 0 u ∧ k = min (u.length : Int) 2001)
theorem unk_le (N : Nat) (sz : Nat → Int) : unk N sz ≤ N := by
  have := List.countP_le_length (p := fun p : Nat => decide (sz p = 0)) (l := List.range N)
  simpa [unk] using this
theorem sol_any {L : List Sym} {J : List Int} (hT : Trs L J) (hv : ∀ x ∈ J, -198 ≤ x) {m : Nat} (h0 : 0 < J.length) (hm : m < J.length) : Sol L J m := by
  have hl := ld0_ok hv
  have hr : RunOk L J (0, endN L J 0, m) := ⟨1, endN L J m, hT 0 h0, hT m hm⟩
  have hroot := roots_len J (ld0 J)
  have he := hT.lt h0
  have hb : (J.length + 1) * roots J (ld0 J) + runsN [(0, endN L J 0, m)] < (J.length + 1) * J.length + J.length + 3 := by
    have := Nat.mul_le_mul_left (J.length + 1) hroot
    simp only [runsN]; omega
  obtain ⟨res, e1, e2⟩ := uni_ends hT _ _ _ hl (fun r hr' => by simp at hr'; rw [hr']; exact hr) hb
  refine ⟨res, ⟨hT, hl, fun r hr' => by simp at hr'; rw [hr']; exact hr, e1, by simp; omega⟩, ?_, ?_⟩
  · intro e
    rw [e] at e1
    unfold solF; rw [e1]
  · intro ld e
    have hld := e2 ld e
    rw [e] at e1
    have hz : SzOk (fun _ => 0) := fun p => .inr ⟨by simp, by simp⟩
    have hk : Known L J ld (fun _ => 0) := fun p _ _ h => by simp at h
    have p0 : UPart J 0 := part_nat (p := 0) h0
    obtain ⟨k, sz', g1, g2⟩ := sizF_ends hT hld (J.length + 1) (fun _ => 0) 0 p0 hz (by have := unk_le J.length (fun _ => 0); omega)
    obtain ⟨-, g4⟩ := sizF_known hT hld _ _ _ _ _ p0 hz hk g1
    refine ⟨hld, k, sz', g1, ?_, ?_⟩
    · intro e
      unfold solF; rw [e1]; simp only [g1]; rw [if_pos e]
    · intro e
      refine ⟨by unfold solF; rw [e1]; simp only [g1]; rw [if_neg e], g4 e⟩
theorem Sol.val {L : List Sym} {J : List Int} {m : Nat} (h : Sol L J m) {ld : Int → Int} {k : Int} (hs : solF L J m = some (ld, k)) : (∃ n, uniF L J n (ld0 J) [(0, endN L J 0, m)] = some (some ld)) ∧ LdOk J ld ∧ ∃ u, Val L J ld 0 u ∧ k = min (u.length : Int) 2001 := by
  obtain ⟨res, h1, h2, h3⟩ := h.uni
  cases res with
  | none => rw [h2 rfl] at hs; cases hs
  | some ld' =>
    obtain ⟨g1, k', sz', g2, g3, g4⟩ := h3 ld' rfl
    by_cases e : k' = -1
    · rw [g3 e] at hs; cases hs
    · obtain ⟨f1, f2⟩ := g4 e
      rw [f1] at hs
      simp only [Option.some.injEq, Prod.mk.injEq] at hs
      obtain ⟨rfl, rfl⟩ := hs
      exact ⟨⟨_, h1.eq⟩, g1, f2⟩
end Go.Proofs.Ythhcnllabhfejaa
/- The walks of package unify's solve, common, Unify, Overlap and Clash. -/
namespace Go.Proofs.Ythhcnllabhfejaa
set_option maxRecDepth 100000
set_option linter.unusedVariables false
open Go.RowKit
attribute [local go_sem ↓] Go.wp_at_zero Go.wp_at_succ
/-- A joint as join leaves it. -/
theorem led_zero {J : List Int} (hv : ∀ x ∈ J, -198 ≤ x) : Led J (ld0 J) (ld0 J) (fun x => if 0 ≤ x then 1 else 0) := by
  have hl := ld0_ok hv
  refine ⟨hl.part, hl.idem, fun x _ => Iff.rfl, fun x hx hn => ?_⟩
  by_cases h : 0 ≤ x ∧ at' J x < 0
  · have e : ld0 J x = at' J x := by unfold ld0; rw [if_pos h]
    simp only [e]
    rw [if_neg (by omega), if_pos h.1]; omega
  · exact absurd (by unfold ld0; rw [if_neg h]) hn
theorem JJ.jat {L : List Sym} {w0 w : World} {B : JB} {J : List Int} (hv : ∀ x ∈ J, -198 ≤ x) (h : JJ w0 B w J J.length (fun x => x) (fun i => (endN L J i : Int)) (fun i => ld0 J i)) : JAt L B w J (ld0 J) (fun _ => 0) := by
  refine ⟨ld0 J, _, ⟨?_, ?_, h.ends, h.same, h.sizes, h.ap⟩, led_zero hv⟩
  · refine h.head.congr (fun v h1 h2 => ?_)
    unfold ld0; rw [if_neg (by omega)]
  · have hr := h.row
    rcases hr.2 with ⟨e, _⟩ | ⟨g, cap, cur, hv', hb, hg, h1, h2, h3, h4⟩
    · cases e
    · simp only [Value.slice.injEq, Option.some.injEq, Addr.mk.injEq, and_true, true_and] at hv'
      obtain ⟨rfl, rfl⟩ := hv'
      refine ⟨cur, _, hg, by omega, fun i hi => ?_⟩
      have := hr.cellAt i (by omega)
      rw [cellAt hg, iv_get hi] at this
      show cur[i]? = some (.int .i64 (at' J (i : Int)))
      rw [this, at'_nat J i hi]
theorem jl_vars {L : List Sym} {a b : List Int} (ha : checkE L a = 0) (hb : checkE L b = 0) {ap : Nat} (hap : ap ≤ 99) : ∀ x ∈ jl a b ap, -198 ≤ x := by
  intro x hx
  unfold jl at hx
  rcases List.mem_append.1 hx with e | e
  · have := (badE_zero.1 (checkE_zero.1 ha).2.1 x e).2; omega
  · obtain ⟨y, hy, rfl⟩ := List.mem_map.1 e
    have := (badE_zero.1 (checkE_zero.1 hb).2.1 y hy).2
    unfold shF; split <;> omega
def SolPost (L : List Sym) (a b : List Int) (ap : Nat) (w : World) (e : Ending) (w' : World) : Prop := Same0 w w' ∧
  (checkE L a ≠ 0 → e = .returned (.tuple #[.pointer none, .int .i64 0, .int .i64 (checkE L a)])) ∧
  (checkE L a = 0 → checkE L b ≠ 0 → e = .returned (.tuple #[.pointer none, .int .i64 0, .int .i64 (checkE L b)])) ∧
  (checkE L a = 0 → checkE L b = 0 → solF L (jl a b ap) a.length = none → e = .returned (.tuple #[.pointer none, .int .i64 0, .int .i64 60])) ∧
  (checkE L a = 0 → checkE L b = 0 → ∀ ld k, solF L (jl a b ap) a.length = some (ld, k) → ∃ B sz', e = .returned (.tuple #[.pointer (some ⟨B.jb, 0, none⟩), .int .i64 k, .int .i64 0]) ∧ JAt L B w' (jl a b ap) ld sz' ∧ LdOk (jl a b ap) ld ∧ (∀ f, B.Foot f → w.heap.size ≤ f ∧ f < w'.heap.size) ∧ ∃ u, Val L (jl a b ap) ld 0 u ∧ k = min (u.length : Int) 2001)
set_option maxHeartbeats 4000000 in
theorem solve_any {b : Nat} {w : World} {L : List Sym} (h : Sg w.heap.size w b L) {xo yo : Option Addr} {xc yc : Nat} {x y : List Int} (hx : IntsAt w xo x) (hy : IntsAt w yo y) (hxm : x.length ≤ maxLen) (hym : y.length ≤ maxLen) {ap : Nat} (hap : ap ≤ 99) :
    Calls Try.prog 27 #[.pointer (some ⟨b, 0, none⟩), .slice xo x.length xc, .slice yo y.length yc, .int .i64 (ap : Int)] w (SolPost L x y ap w) := by
  have c1 := check_any (cap := xc) h hx hxm
  have c2 : Hid (∀ w1, Same0 w w1 → Calls Try.prog 42 #[.pointer (some ⟨b, 0, none⟩), .slice yo y.length yc] w1 fun e w' => e = .returned (.int .i64 (checkE L y)) ∧ Same0 w1 w') := fun w1 hk => check_any (cap := yc) (h.same hk) (hy.same hk) hym
  by_cases hz : checkE L x = 0
  · by_cases hq : checkE L y = 0
    · obtain ⟨x1, x2, x3⟩ := checkE_zero.1 hz
      obtain ⟨y1, y2, y3⟩ := checkE_zero.1 hq
      obtain ⟨J, hJ⟩ : ∃ J, jl x y ap = J := ⟨_, rfl⟩
      have hJl : J.length = x.length + y.length := by rw [← hJ]; simp [jl]
      have hv := jl_vars hz hq hap
      have hT := trs_jl (apart := (ap : Int)) (by omega) x3 y3
      rw [hJ] at hv hT
      have p1 := isT_pos x3
      have p2 := isT_pos y3
      obtain ⟨res, hU, hR1, hR2⟩ := (sol_any hT hv (m := x.length) (by omega) (by omega)).uni
      have CJ : Hid (∀ w1, Same0 w w1 → Calls Try.prog 43 #[.pointer (some ⟨b, 0, none⟩), .slice xo x.length xc, .slice yo y.length yc, .int .i64 (ap : Int)] w1 fun e w' => ∃ B, e = .returned (.pointer (some ⟨B.jb, 0, none⟩)) ∧ JAt L B w' J (ld0 J) (fun _ => 0) ∧ (∀ f, B.Foot f → w.heap.size ≤ f) ∧ Same0 w w') := by
        intro w1 hk
        have hg : Sg w1.heap.size w1 b L := by
          have := h.same hk
          obtain ⟨⟨sv, mr, s1, s2⟩, s3⟩ := this
          exact ⟨⟨sv, mr, s1, fun k hk' => Nat.lt_of_lt_of_le (s2 k hk') hk.size⟩, s3⟩
        refine (ujoin_any hg (hx.same hk) (hy.same hk) x3 y3 x1 y1 (fun z hz => (badE_zero.1 y2 z hz).2) hap).mono ?_
        rintro e w' ⟨B, rfl, hj⟩
        rw [hJ] at hj
        exact ⟨B, rfl, hj.jat hv, fun f hf => Nat.le_trans hk.size (hj.new f hf), hk.trans' hj.kept⟩
      have CU : Hid (∀ B w1, JAt L B w1 J (ld0 J) (fun _ => 0) → Calls Try.prog 44 #[.pointer (some ⟨B.jb, 0, none⟩), .int .i64 0, .int .i64 (x.length : Int)] w1 (UEnd L B J (fun _ => 0) res w1)) := by
        intro B w1 hj
        exact unite_any (a := 0) hj (by omega) (by omega) (by omega) hU
      rw [hz] at c1
      rw [hq] at c2
      cases res with
      | none =>
        have HX : Hid (∀ w', Same0 w w' → SolPost L x y ap w (.returned (.tuple #[.pointer none, .int .i64 0, .int .i64 60])) w') := by
          intro w' hk
          refine ⟨hk, fun f => absurd hz f, fun _ f => absurd hq f, fun _ _ _ => rfl, fun _ _ ld k f => ?_⟩
          rw [hJ, hR1 rfl] at f; cases f
        clear hU hR1 hR2 hz hq hx hy h hJ
        go_enter Try.func27, Try.ntmps27
        go_upto_region 4 with (first | (go_at_call 42; refine c1.mono ?_; rintro e w1 ⟨rfl, hk1⟩))
        go_upto_region 7 with (first | (go_at_call 42; refine (c2.out _ hk1).mono ?_; rintro e w2 ⟨rfl, hk2⟩))
        have K2 := hk1.trans' hk2
        go_wp2_with (first | (go_at_call 43; refine (CJ.out _ K2).mono ?_; rintro e w3 ⟨B, rfl, hj3, hf3, hk3⟩) | (go_at_call 44; refine (CU.out _ _ hj3).mono ?_; rintro e w4 ⟨-, he4, hk4⟩; obtain rfl := he4 rfl; clear he4))
        have K4 : Same0 w w4 := hk3.trans hk4 (fun i hi f => by have := hf3 i (JB.way_foot f); omega)
        exact bodyPost_ret (v := .tuple #[.pointer none, .int .i64 0, .int .i64 60]) (by simp [results, Try.results27, go_sem]) rfl (HX.out _ K4)
      | some ld =>
        obtain ⟨hld, k, sz', hs, hk1, hk2⟩ := hR2 ld rfl
        have CS : Hid (∀ B w1, JAt L B w1 J ld (fun _ => 0) → Calls Try.prog 45 #[.pointer (some ⟨B.jb, 0, none⟩), .int .i64 0] w1 (SizPost L B J ld w1 k sz')) := fun B w1 hj => usize_any hT hld (by omega) _ w1 _ 0 k sz' hj (part_nat (p := 0) (by omega)) (fun p => .inr ⟨by simp, by simp⟩) hs
        have HX : Hid (∀ B w', JAt L B w' J ld sz' → (∀ f, B.Foot f → w.heap.size ≤ f) → Same0 w w' → (k = -1 → SolPost L x y ap w (.returned (.tuple #[.pointer none, .int .i64 0, .int .i64 60])) w') ∧ (k ≠ -1 → SolPost L x y ap w (.returned (.tuple #[.pointer (some ⟨B.jb, 0, none⟩), .int .i64 k, .int .i64 0])) w')) := by
          intro B w' hj hf hk
          have hfl : ∀ f, B.Foot f → f < w'.heap.size := by
            obtain ⟨nx, ρ, hC, -⟩ := id hj
            exact fun f hf => hC.lt hf
          refine ⟨fun e => ?_, fun e => ?_⟩
          · refine ⟨hk, fun f => absurd hz f, fun _ f => absurd hq f, fun _ _ _ => rfl, fun _ _ ld k f => ?_⟩
            rw [hJ, hk1 e] at f; cases f
          · obtain ⟨e1, u, e2, e3⟩ := hk2 e
            refine ⟨hk, fun f => absurd hz f, fun _ f => absurd hq f, fun _ _ f => ?_, fun _ _ ld' k' f => ?_⟩
            · rw [hJ, e1] at f; cases f
            · rw [hJ] at f ⊢
              rw [e1] at f
              simp only [Option.some.injEq, Prod.mk.injEq] at f
              obtain ⟨rfl, rfl⟩ := f
              exact ⟨B, sz', rfl, hj, hld, fun f hf' => ⟨hf f hf', hfl f hf'⟩, u, e2, e3⟩
        clear hU hR1 hR2 hz hq hx hy h hJ hk1 hk2 hs
        go_enter Try.func27, Try.ntmps27
        go_upto_region 4 with (first | (go_at_call 42; refine c1.mono ?_; rintro e w1 ⟨rfl, hk1⟩))
        go_upto_region 7 with (first | (go_at_call 42; refine (c2.out _ hk1).mono ?_; rintro e w2 ⟨rfl, hk2⟩))
        have K2 := hk1.trans' hk2
        go_upto_region 10 with (first | (go_at_call 43; refine (CJ.out _ K2).mono ?_; rintro e w3 ⟨B, rfl, hj3, hf3, hk3⟩) | (go_at_call 44; refine (CU.out _ _ hj3).mono ?_; rintro e w4 ⟨he4, -, hk4⟩; obtain ⟨rfl, hj4⟩ := he4 ld rfl; clear he4))
        have K4 : Same0 w w4 := hk3.trans hk4 (fun i hi f => by have := hf3 i (JB.way_foot f); omega)
        by_cases hk : k = -1
        · subst hk
          go_wp2_with (first | (go_at_call 45; refine (CS.out _ _ hj4).mono ?_; rintro e w5 ⟨rfl, hj5, hk5⟩))
          have K5 : Same0 w w5 := K4.trans hk5 (fun i hi f => by
            have := hf3 i (by rcases f with e | e | e; exact .inl e; exact .inr (.inr (.inr (.inl e))); exact .inr (.inr (.inr (.inr e)))); omega)
          exact bodyPost_ret (v := .tuple #[.pointer none, .int .i64 0, .int .i64 60]) (by simp [results, Try.results27, go_sem]) rfl ((HX.out B w5 hj5 hf3 K5).1 (by trivial))
        · go_wp2_with (first | (go_at_call 45; refine (CS.out _ _ hj4).mono ?_; rintro e w5 ⟨rfl, hj5, hk5⟩))
          have K5 : Same0 w w5 := K4.trans hk5 (fun i hi f => by
            have := hf3 i (by rcases f with e | e | e; exact .inl e; exact .inr (.inr (.inr (.inl e))); exact .inr (.inr (.inr (.inr e)))); omega)
          exact bodyPost_ret (v := .tuple #[.pointer (some ⟨B.jb, 0, none⟩), .int .i64 k, .int .i64 0]) (by simp [results, Try.results27, go_sem]) rfl ((HX.out B w5 hj5 hf3 K5).2 hk)
    · rw [hz] at c1
      have HX : Hid (∀ w', Same0 w w' → SolPost L x y ap w (.returned (.tuple #[.pointer none, .int .i64 0, .int .i64 (checkE L y)])) w') := fun w' hk => ⟨hk, fun f => absurd hz f, fun _ _ => rfl, fun _ f => absurd f hq, fun _ f => absurd f hq⟩
      have hq' : (checkE L y == 0) = false := by simpa using hq
      clear hz hq
      go_enter Try.func27, Try.ntmps27
      go_upto_region 4 with (first | (go_at_call 42; refine c1.mono ?_; rintro e w1 ⟨rfl, hk1⟩))
      go_wp2_with (first | (go_at_call 42; refine (c2.out _ hk1).mono ?_; rintro e w2 ⟨rfl, hk2⟩))
      exact bodyPost_ret (v := .tuple #[.pointer none, .int .i64 0, .int .i64 (checkE L y)]) (by simp [results, Try.results27, go_sem]) rfl (HX.out _ (hk1.trans' hk2))
  · have HX : Hid (∀ w', Same0 w w' → SolPost L x y ap w (.returned (.tuple #[.pointer none, .int .i64 0, .int .i64 (checkE L x)])) w') := fun w' hk => ⟨hk, fun _ => rfl, fun f => absurd f hz, fun f => absurd f hz, fun f => absurd f hz⟩
    have hz' : (checkE L x == 0) = false := by simpa using hz
    clear hz
    go_enter Try.func27, Try.ntmps27
    go_wp2_with (first | (go_at_call 42; refine c1.mono ?_; rintro e w1 ⟨rfl, hk1⟩))
    exact bodyPost_ret (v := .tuple #[.pointer none, .int .i64 0, .int .i64 (checkE L x)]) (by simp [results, Try.results27, go_sem]) rfl (HX.out _ hk1)
end Go.Proofs.Ythhcnllabhfejaa
/- The walks of package unify's common, Unify, Overlap and Clash. -/
namespace Go.Proofs.Ythhcnllabhfejaa
set_option maxRecDepth 100000
set_option linter.unusedVariables false
open Go.RowKit
attribute [local go_sem ↓] Go.wp_at_zero Go.wp_at_succ
theorem zeros_writer : Try.zeroCells79 = #[.pointer none, .slice none 0 0] ++ Array.replicate 199 (.int .i64 0) ++ #[.int .i64 0] := by kernel_rfl
theorem info_writer : (Try.prog.info? 79).map (·.size) = some 202 := by kernel_rfl
structure ZWk (Z : Array Value) : Prop where
  size : Z.size = 202
  var : ∀ v, 1 ≤ v → v < 199 → Z[2 + v]? = some (.int .i64 0)
  last : Z[201]? = some (.int .i64 0)
  one : Z.all (·.oneCell') = true
theorem zeros_one : Try.zeroCells79.all (·.oneCell') = true := by kernel_rfl
theorem zwk_writer : ZWk Try.zeroCells79 := by
  refine ⟨by rw [zeros_writer]; simp, fun v h1 h2 => ?_, ?_, zeros_one⟩ <;> rw [zeros_writer]
  · rw [Array.getElem?_append_left (by simp; omega), Array.getElem?_append_right (by simp), Array.getElem?_eq_getElem (by simp; omega)]
    simp
  · rw [Array.getElem?_append_right (by simp)]; simp
def WZ (Z : Array Value) (p v : Value) : Array Value := (Z.setIfInBounds 0 p).setIfInBounds 1 v
theorem wz_one {Z : Array Value} (hZ : ZWk Z) (p : Option Addr) (v : Option Addr) (n c : Nat) : (WZ Z (.pointer p) (.slice v n c)).all (·.oneCell') = true := by
  rw [Array.all_eq_true]
  intro i hi
  have hs := hZ.size
  simp only [WZ, Array.size_setIfInBounds] at hi
  have h1 := Array.all_eq_true.1 hZ.one i hi
  have e : (WZ Z (.pointer p) (.slice v n c))[i]? = some (if i = 1 then .slice v n c else if i = 0 then .pointer p else Z[i]) := by
    simp only [WZ]
    rw [Array.getElem?_setIfInBounds]
    by_cases e1 : i = 1
    · subst e1; rw [if_pos rfl, if_pos (by simp; omega), if_pos rfl]
    · rw [if_neg (fun f => e1 f.symm), Array.getElem?_setIfInBounds, if_neg e1]
      by_cases e0 : i = 0
      · subst e0; rw [if_pos rfl, if_pos (by omega), if_pos rfl]
      · rw [if_neg (fun f => e0 f.symm), if_neg e0, Array.getElem?_eq_getElem hi]
  rw [Array.getElem?_eq_getElem (by simpa [WZ] using hi)] at e
  simp only [Option.some.injEq] at e
  rw [e]
  split
  · rfl
  · split
    · rfl
    · exact h1
theorem run_store_writer {w : World} {g : Nat} {old cs : Array Value} (hg : w.heap[g]? = some (.cells old 79 (0, 0))) (ho : old.size = 202) (h : cs.size = 202) (h1 : cs.all (·.oneCell') = true) : (storeVar 79 ⟨g, 0, none⟩ (.agg cs)).run Try.prog w = .ok () (w.setRow g cs) :=
  run_storeVar_row w g _ _ old cs hg (by rw [h]; exact info_writer) (by omega) h1
theorem run_storeCells_writer {w : World} {g : Nat} {old cs : Array Value} (hg : w.heap[g]? = some (.cells old 79 (0, 0))) (ho : old.size = 202) (h : cs.size = 202) (h1 : cs.all (·.oneCell') = true) : (storeCells ⟨g, 0, none⟩ cs.toList 0).run Try.prog w = .ok () (w.setRow g cs) := by
  have := run_store_writer hg ho h h1
  have hi := info_writer
  cases hq : Try.prog.info? 79 with
  | none => simp [hq] at hi
  | some i =>
    have hs : cs.size = i.size := by simp [hq] at hi; omega
    simpa [storeVar, sizeOf, typeInfo, hq, Value.cells, hs] using this
theorem wz_head {Z : Array Value} (hZ : ZWk Z) {w : World} {wb jb tb cap : Nat} (hb : w.heap[wb]? = some (.cells (WZ Z (.pointer (some ⟨jb, 0, none⟩)) (.slice (some ⟨tb, 0, none⟩) 0 cap)) 79 (0, 0))) : WH w wb jb (.slice (some ⟨tb, 0, none⟩) 0 cap) (nmO []) 0 := by
  have hs := hZ.size
  refine ⟨_, hb, by simp [WZ, hs], ?_, ?_, ?_, ?_⟩ <;> simp only [WZ]
  · rw [Array.getElem?_setIfInBounds, if_neg (by omega), Array.getElem?_setIfInBounds, if_pos rfl, if_pos (by omega)]
  · rw [Array.getElem?_setIfInBounds, if_pos rfl, if_pos (by simp; omega)]
  · intro u h1 h2
    rw [Array.getElem?_setIfInBounds, if_neg (by omega), Array.getElem?_setIfInBounds, if_neg (by omega), hZ.var u h1 h2]
    simp [nmO]
  · rw [Array.getElem?_setIfInBounds, if_neg (by omega), Array.getElem?_setIfInBounds, if_neg (by omega)]; exact hZ.last
def ComPost (L : List Sym) (a b : List Int) (ap : Nat) (w : World) (e : Ending) (w' : World) : Prop := ∃ v, e = .returned (.tuple #[v, .int .i64 (comE L a b ap)]) ∧ Row w.heap.size w' v (comT L a b ap) ∧ Same0 w w'
set_option maxHeartbeats 4000000 in
theorem common_any {b : Nat} {w : World} {L : List Sym} (h : Sg w.heap.size w b L) {xo yo : Option Addr} {xc yc : Nat} {x y : List Int} (hx : IntsAt w xo x) (hy : IntsAt w yo y) (hxm : x.length ≤ maxLen) (hym : y.length ≤ maxLen) {ap : Nat} (hap : ap ≤ 99) :
    Calls Try.prog 24 #[.pointer (some ⟨b, 0, none⟩), .slice xo x.length xc, .slice yo y.length yc, .int .i64 (ap : Int)] w (ComPost L x y ap w) := by
  have cS := solve_any (xc := xc) (yc := yc) h hx hy hxm hym hap
  have bad : comE L x y ap ≠ 0 → Hid (∀ w', Same0 w w' → ComPost L x y ap w (.returned (.tuple #[.slice none 0 0, .int .i64 (comE L x y ap)])) w') := fun hne w' hk => ⟨_, rfl, by unfold comT; rw [if_neg hne]; exact World.ownsRow_nil _ _ _ _, hk⟩
  by_cases hz : checkE L x = 0
  · by_cases hq : checkE L y = 0
    · cases hs : solF L (jl x y ap) x.length with
      | none =>
        have e1 : comE L x y ap = 60 := by simp [comE, hz, hq, hs]
        have HX := bad (by rw [e1]; omega)
        rw [e1] at HX
        have cS2 : Calls Try.prog 27 #[.pointer (some ⟨b, 0, none⟩), .slice xo x.length xc, .slice yo y.length yc, .int .i64 (ap : Int)] w fun e w' => e = .returned (.tuple #[.pointer none, .int .i64 0, .int .i64 60]) ∧ Same0 w w' := cS.mono (fun e w' g => ⟨g.2.2.2.1 hz hq hs, g.1⟩)
        clear cS hz hq hs bad e1 hx hy h
        go_enter Try.func24, Try.ntmps24
        go_wp2_with (first | (go_at_call 27; refine cS2.mono ?_; rintro e w1 ⟨rfl, hk1⟩))
        go_ret2
        exact HX.out _ hk1
      | some v =>
        obtain ⟨ld, k⟩ := v
        have cS2 := cS.mono (fun e w' g => (⟨g.2.2.2.2 hz hq ld k hs, g.1⟩ : (∃ B sz', e = .returned (.tuple #[.pointer (some ⟨B.jb, 0, none⟩), .int .i64 k, .int .i64 0]) ∧ JAt L B w' (jl x y ap) ld sz' ∧ LdOk (jl x y ap) ld ∧ (∀ f, B.Foot f → w.heap.size ≤ f ∧ f < w'.heap.size) ∧ ∃ u, Val L (jl x y ap) ld 0 u ∧ k = min (u.length : Int) 2001) ∧ Same0 w w'))
        by_cases hk : 2000 < k
        · have e1 : comE L x y ap = 20 := by simp [comE, hz, hq, hs, hk]
          have HX := bad (by rw [e1]; omega)
          rw [e1] at HX
          clear cS hz hq hs bad e1 hx hy h
          go_enter Try.func24, Try.ntmps24
          go_wp2_with (first | (go_at_call 27; refine cS2.mono ?_; rintro e w1 ⟨⟨B, sz', rfl, -⟩, hk1⟩))
          go_ret2
          exact HX.out _ hk1
        · have e1 : comE L x y ap = 0 := by simp [comE, hz, hq, hs, hk]
          have e2 : comT L x y ap = wrF [] ((tmF L (jl x y ap) ld 2000 0).getD []) := by unfold comT; rw [if_pos e1, hs]
          obtain ⟨x1, x2, x3⟩ := checkE_zero.1 hz
          obtain ⟨y1, y2, y3⟩ := checkE_zero.1 hq
          have hT := trs_jl (apart := (ap : Int)) (by omega) x3 y3
          obtain ⟨J, hJ⟩ : ∃ J, jl x y ap = J := ⟨_, rfl⟩
          have hJl : J.length = x.length + y.length := by rw [← hJ]; simp [jl]
          have p1 := isT_pos x3
          have hv := jl_vars hz hq hap
          rw [hJ] at hT cS2 hs hv e2
          obtain ⟨-, hld, u, hu, hku⟩ := (sol_any hT hv (m := x.length) (by omega) (by have := isT_pos y3; omega)).val hs
          obtain ⟨n, hn⟩ : ∃ n, u.length = n := ⟨_, rfl⟩
          have hkn : k = (n : Int) := by rw [hku]; omega
          subst hkn
          have hn2 : n ≤ 2000 := by omega
          have e3 : comT L x y ap = wrF [] u := by rw [e2, hu.tm (n := 2000) (by omega)]; rfl
          have cS3 : Calls Try.prog 27 #[.pointer (some ⟨b, 0, none⟩), .slice xo x.length xc, .slice yo y.length yc, .int .i64 (ap : Int)] w fun e w' => (∃ B sz', e = .returned (.tuple #[.pointer (some ⟨B.jb, 0, none⟩), .int .i64 (n : Int), .int .i64 0]) ∧ JAt L B w' J ld sz' ∧ (∀ f, B.Foot f → w.heap.size ≤ f ∧ f < w'.heap.size)) ∧ Same0 w w' := cS2.mono (fun e w' ⟨⟨B, sz', a1, a2, a3, a4, _⟩, a5⟩ => ⟨⟨B, sz', a1, a2, a4⟩, a5⟩)
          obtain ⟨Z, hz'⟩ : ∃ Z, Try.zeroCells79 = Z := ⟨_, rfl⟩
          have hZ : ZWk Z := hz' ▸ zwk_writer
          have hzs : Z.size = 202 := hZ.size
          have hzn : ¬ Z = #[] := fun e => by rw [e] at hzs; simp at hzs
          have hmk : ∀ w : World, (Instr.makeSlice 25 (.int .i64 0) (.int .i64 (n : Int))).run Try.prog w = .ok (.slice (some ⟨w.heap.size, 0, none⟩) 0 n) (w.alloc (.cells (madeCells #[.int .i64 0] n) 3)) := fun w => by
            obtain ⟨i0, hi0, hz0, hz1, hz2⟩ := info_parts info_intS
            have := run_make w 25 3 i0 _ Try.underlying25 hi0 hz0 .i64 .i64 0 (n : Int) (by omega) (by omega) (by rw [hz2]; omega) (by omega)
            simpa [hz1, Value.cells] using this
          obtain ⟨d, hd⟩ := hu
          have FIN : Hid (∀ (B : JB) (sz' : Nat → Int) (w1 : World), JAt L B w1 J ld sz' → (∀ f, B.Foot f → w.heap.size ≤ f ∧ f < w1.heap.size) → Same0 w w1 → Calls Try.prog 36 #[.pointer (some ⟨w1.heap.size + 1, 0, none⟩), .int .i64 0] (((w1.alloc (.cells (madeCells #[.int .i64 0] n) 3)).alloc (.cells Z 79)).setRow (w1.heap.size + 1) (WZ Z (.pointer (some ⟨B.jb, 0, none⟩)) (.slice (some ⟨w1.heap.size, 0, none⟩) 0 n))) fun e w' => (∃ z, e = .returned z) ∧ w'.cell? ⟨w1.heap.size + 1, 1, none⟩ = some (.slice (some ⟨w1.heap.size, 0, none⟩) (wrF [] u).length n) ∧ w1.heap.size + 1 < w'.heap.size ∧ Row w.heap.size w' (.slice (some ⟨w1.heap.size, 0, none⟩) (wrF [] u).length n) (wrF [] u) ∧ Same0 w w') := by
            intro B sz' w1 hj hf hk
            obtain ⟨w2, e2⟩ : ∃ w2, w2 = w1.alloc (.cells (madeCells #[.int .i64 0] n) 3) := ⟨_, rfl⟩
            obtain ⟨w3, e3⟩ : ∃ w3, w3 = w2.alloc (.cells Z 79) := ⟨_, rfl⟩
            obtain ⟨w4, e4⟩ : ∃ w4, w4 = w3.setRow (w1.heap.size + 1) (WZ Z (.pointer (some ⟨B.jb, 0, none⟩)) (.slice (some ⟨w1.heap.size, 0, none⟩) 0 n)) := ⟨_, rfl⟩
            rw [← e2, ← e3, ← e4]
            have z2 : w2.heap.size = w1.heap.size + 1 := by rw [e2, World.size_alloc]
            have k2 : Same0 w1 w2 := by rw [e2]; exact (Kept.refl _ w1).alloc _
            have k3 : Same0 w2 w3 := by rw [e3]; exact (Kept.refl _ w2).alloc _
            have k4 : Kept (fun k => k = w1.heap.size + 1) w3 w4 := by
              rw [e4]
              exact ⟨rfl, rfl, rfl, by simp [World.setRow], fun k _ hn => by simp only [World.setRow, Array.getElem?_modify]; rw [if_neg (fun e => hn e.symm)]⟩
            have b3 : w3.heap[w1.heap.size + 1]? = some (.cells Z 79 (0, 0)) := by rw [e3, ← z2]; exact heap_alloc_new _ _
            have b4 : w4.heap[w1.heap.size + 1]? = some (.cells (WZ Z (.pointer (some ⟨B.jb, 0, none⟩)) (.slice (some ⟨w1.heap.size, 0, none⟩) 0 n)) 79 (0, 0)) := by
              rw [e4]; simp [World.setRow, Array.getElem?_modify, b3]
            have b2 : w4.heap[w1.heap.size]? = some (.cells (madeCells #[.int .i64 0] n) 3 (0, 0)) := k4.at (k3.at0 (by rw [e2]; exact heap_alloc_new _ _)) (by omega)
            have kk : Same0 w1 w4 := (k2.trans' k3).trans k4 (fun i hi e => by omega)
            have hj4 := hj.kept kk (fun _ _ f => f)
            have hW : WC w.heap.size w4 (w1.heap.size + 1) B.jb w1.heap.size n [] [] := ⟨wz_head hZ b4, ⟨rfl, .inr ⟨w1.heap.size, n, _, rfl, hk.size, b2, Nat.zero_le _, by unfold maxLen; omega, by rw [size_madeCells]; omega, rfl⟩⟩, by omega, by simp, by omega⟩
            refine (write_any hT hld (by omega) (fun f => by have := hf _ f; omega) (fun f => by have := hf _ f; omega) d w4 0 u [] [] hj4 (part_nat (p := 0) (by omega)) hd hW (by simp; omega)).mono ?_
            rintro e w5 ⟨a1, a2, a3, a4⟩
            rw [List.nil_append] at a3
            refine ⟨a1, a3.head.cells.2.1, a3.head.cells.2.2.2.2.2, a3.row, (hk.trans' kk).trans a4 (fun i hi f => ?_)⟩
            rcases f with f | f | f
            · have := hf i (JB.way_foot f); omega
            · have := hk.size; omega
            · have := hk.size; omega
          have HE : Hid (comE L x y ap = 0 ∧ comT L x y ap = wrF [] u) := ⟨e1, e3⟩
          clear cS cS2 hz hq hs bad hx hy h e1 e2 e3 hv hT hld hd hku hn hJ hk
          go_enter Try.func24, Try.ntmps24
          have hn2i : (n : Int) ≤ 2000 := by omega
          go_upto_region 6 with (first | (go_at_call 27; refine cS3.mono ?_; rintro e w1 ⟨⟨B, sz', rfl, hj1, hf1⟩, hk1⟩))
          have hst := run_storeCells_writer (w := (w1.alloc (.cells (madeCells #[.int .i64 0] n) 3)).alloc (.cells Z 79)) (g := w1.heap.size + 1) (old := Z) (cs := WZ Z (.pointer (some ⟨B.jb, 0, none⟩)) (.slice (some ⟨w1.heap.size, 0, none⟩) 0 n)) (by have := heap_alloc_new (w1.alloc (.cells (madeCells #[.int .i64 0] n) 3)) (.cells Z 79); rwa [World.size_alloc] at this) hzs (by simp [WZ, hzs]) (wz_one hZ _ _ _ _)
          have cW := FIN.out B sz' w1 hj1 hf1 hk1
          simp only [WZ, Array.toList_setIfInBounds] at hst
          simp only [WZ] at cW
          clear hj1 hf1 FIN cS3
          go_wp2_with (first | (go_at_call 36; refine cW.mono ?_; rintro e w5 ⟨⟨rr, rfl⟩, g1, g2, g3, g4⟩))
          go_ret2
          exact ⟨_, by rw [HE.out.1]; rfl, by rw [HE.out.2]; exact g3, g4⟩
    · have e1 : comE L x y ap = checkE L y := by simp [comE, hz, hq]
      have HX := bad (by rw [e1]; exact hq)
      rw [e1] at HX
      have cS2 : Calls Try.prog 27 #[.pointer (some ⟨b, 0, none⟩), .slice xo x.length xc, .slice yo y.length yc, .int .i64 (ap : Int)] w fun e w' => e = .returned (.tuple #[.pointer none, .int .i64 0, .int .i64 (checkE L y)]) ∧ Same0 w w' := cS.mono (fun e w' g => ⟨g.2.2.1 hz hq, g.1⟩)
      have hq' : (checkE L y == 0) = false := by simpa using hq
      clear cS hz hq bad e1 hx hy h
      go_enter Try.func24, Try.ntmps24
      go_wp2_with (first | (go_at_call 27; refine cS2.mono ?_; rintro e w1 ⟨rfl, hk1⟩))
      go_ret2
      exact HX.out _ hk1
  · have e1 : comE L x y ap = checkE L x := by simp [comE, hz]
    have HX := bad (by rw [e1]; exact hz)
    rw [e1] at HX
    have cS2 : Calls Try.prog 27 #[.pointer (some ⟨b, 0, none⟩), .slice xo x.length xc, .slice yo y.length yc, .int .i64 (ap : Int)] w fun e w' => e = .returned (.tuple #[.pointer none, .int .i64 0, .int .i64 (checkE L x)]) ∧ Same0 w w' := cS.mono (fun e w' g => ⟨g.2.1 hz, g.1⟩)
    have hz' : (checkE L x == 0) = false := by simpa using hz
    clear cS hz bad e1 hx hy h
    go_enter Try.func24, Try.ntmps24
    go_wp2_with (first | (go_at_call 27; refine cS2.mono ?_; rintro e w1 ⟨rfl, hk1⟩))
    go_ret2
    exact HX.out _ hk1
end Go.Proofs.Ythhcnllabhfejaa
