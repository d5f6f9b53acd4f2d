/- The walk of package unify's write. -/
import Derived.Test.YthhcnllabhfejaaUniWr
import Derived.Test.YthhcnllabhfejaaUniSizeW
namespace Go.Proofs.Ythhcnllabhfejaa
set_option maxRecDepth 100000
set_option linter.unusedVariables false
open Go.RowKit
attribute [local go_sem ↓] Go.wp_at_zero Go.wp_at_succ
def JB.Wr (B : JB) (wb tb : Nat) (k : Nat) : Prop := B.Way k ∨ k = wb ∨ k = tb
def WrPost (L : List Sym) (B : JB) (J : List Int) (ld : Int → Int) (sz : Nat → Int) (base wb tb cap : Nat) (w : World) (out o : List Int) (e : Ending) (w' : World) : Prop := (∃ z, e = .returned z) ∧ JAt L B w' J ld sz ∧ WC base w' wb B.jb tb cap out o ∧ Kept (B.Wr wb tb) w w'
set_option maxHeartbeats 4000000 in
theorem write_any {L : List Sym} {B : JB} {J : List Int} {ld : Int → Int} {sz : Nat → Int} {base wb tb cap : Nat} (hT : Trs L J) (hl : LdOk J ld) (hJ : J.length ≤ 4000) (hwb : ¬ B.Foot wb) (htb : ¬ B.Foot tb) : ∀ (d : Nat) (w : World) (x : Int) (u out o : List Int), JAt L B w J ld sz → UPart J x → tmF L J ld d x = some u → WC base w wb B.jb tb cap out o → out.length + u.length ≤ cap →
    Calls Try.prog 36 #[.pointer (some ⟨wb, 0, none⟩), .int .i64 x] w (WrPost L B J ld sz base wb tb cap w (out ++ wrF o u) (vz o u)) := by
  obtain ⟨i0, hi0, hz0, hz1, hz2⟩ := info_parts info_intW
  have hwy : ¬ B.Way wb := fun f => hwb (by rcases f with e | e; exact .inl e; exact .inr (.inr (.inr (.inl e))))
  have hty : ¬ B.Way tb := fun f => htb (by rcases f with e | e; exact .inl e; exact .inr (.inr (.inr (.inl e))))
  intro d
  induction d with
  | zero => intro w x u out o _ _ e; simp [tmF] at e
  | succ d ih =>
    intro w x u out o h hx e hW hfit
    have cL := leader_any h hx
    have hpx := hl.part x hx
    have hsy := hl.sym x hx
    obtain ⟨c0, c1, c2, c3, c4, c5⟩ := hW.head.cells
    rw [tmF] at e
    obtain ⟨p, hp⟩ : ∃ p, ld x = p := ⟨_, rfl⟩
    rw [hp] at e cL hpx hsy
    by_cases h1 : p < 0
    · rw [if_pos h1] at e
      simp only [Option.some.injEq] at e
      subst e
      obtain ⟨v, rfl⟩ : ∃ v : Nat, p = -(v : Int) := ⟨(-p).toNat, by omega⟩
      have hv1 : 1 ≤ v := by omega
      have hv2 : v < 199 := by have := hpx.1; omega
      have i2 : (v : Int) < 199 := by omega
      have i1 : (1 : Int) ≤ (v : Int) := by omega
      have CV : Hid (∀ w1, JAt L B w1 J ld sz → Kept B.Way w w1 → Calls Try.prog 56 #[.pointer (some ⟨wb, 0, none⟩), .int .i64 (v : Int)] w1 (WrPost L B J ld sz base wb tb cap w (out ++ wrF o [-(v : Int)]) (vz o [-(v : Int)]))) := by
        intro w1 hj hk
        refine (writeVariable_any (hW.kept hk hwy hty) hv1 hv2 (by simpa using hfit)).mono ?_
        rintro e w2 ⟨a1, a2, a3⟩
        exact ⟨a1, hj.kept a3 (fun k hk f => by rcases f with f | f <;> subst f; exact hwb hk; exact htb hk), a2, (hk.mono (fun _ _ f => .inl f)).trans a3 (fun _ _ f => .inr f)⟩
      clear ih h hW
      go_enter Try.func36, Try.ntmps36
      go_wp2_with (first | (go_at_call 55; refine cL.mono ?_; rintro e w1 ⟨rfl, hj1, hk1⟩) | (go_at_call 56; refine (CV.out w1 hj1 hk1).mono ?_; rintro e w2 ⟨⟨z, rfl⟩, hP⟩))
      go_returns
      exact ⟨⟨_, rfl⟩, hP⟩
    · rw [if_neg h1] at e
      obtain ⟨p, rfl⟩ : ∃ v : Nat, p = (v : Int) := ⟨p.toNat, by omega⟩
      rw [Int.toNat_natCast] at e
      cases h2 : argsT (tmF L J ld d) (kidsL L J p) with
      | none => simp [h2] at e
      | some us =>
        simp only [h2, Option.some.injEq] at e
        subst e
        have hpl : p < J.length := by have := hpx.2; omega
        have i1 : (0 : Int) ≤ (p : Int) := by omega
        have i2 : (p : Int) < (J.length : Int) := by omega
        have i3 : (p : Int) < 4000 := by omega
        have hz : 0 ≤ at' J (p : Int) := hsy (by omega)
        have hF := kids_forest hT hpl
        obtain ⟨z, hzz⟩ : ∃ z, at' J (p : Int) = z := ⟨_, rfl⟩
        have IH : Hid (∀ (w : World) (x : Int) (u out o : List Int), JAt L B w J ld sz → UPart J x → tmF L J ld d x = some u → WC base w wb B.jb tb cap out o → out.length + u.length ≤ cap → Calls Try.prog 36 #[.pointer (some ⟨wb, 0, none⟩), .int .i64 x] w (WrPost L B J ld sz base wb tb cap w (out ++ wrF o u) (vz o u))) := ih
        have H2 : Hid (argsT (tmF L J ld d) (starts L J (arN L (at' J p)) (p + 1)) = some us) := h2
        have ew : vzs o z = o := by unfold vzs; rw [if_neg (by omega)]
        have er : rn o z = z := by unfold rn; rw [if_neg (by omega)]
        have e1 : wrF o (at' J (p : Int) :: us) = z :: wrF o us := by rw [wrF, hzz, ew, er]
        have e2 : vz o (at' J (p : Int) :: us) = vz o us := by rw [hzz]; simp only [vz, List.foldl_cons, ew]
        have HO : Hid (out ++ wrF o (at' J (p : Int) :: us) = (out ++ [z]) ++ wrF o us ∧ vz o (at' J (p : Int) :: us) = vz o us) := ⟨by rw [e1]; simp, e2⟩
        obtain ⟨OUT, hOUT⟩ : ∃ O, out ++ wrF o (at' J (p : Int) :: us) = O := ⟨_, rfl⟩
        obtain ⟨OF, hOF⟩ : ∃ O, vz o (at' J (p : Int) :: us) = O := ⟨_, rfl⟩
        rw [hOUT, hOF] at HO ⊢
        obtain ⟨l, hl'⟩ : ∃ l, out.length = l := ⟨_, rfl⟩
        have hf1 : l + 1 ≤ cap := by simp at hfit; omega
        have HF1 : Hid (out.length + 1 + us.length ≤ cap) := by simp at hfit; show _ ≤ _; omega
        have CA : Hid (∀ w1, JAt L B w1 J ld sz → Kept B.Way w w1 → (w1.cell? ⟨wb, 0, none⟩ = some (.pointer (some ⟨B.jb, 0, none⟩)) ∧ w1.cell? ⟨wb, 1, none⟩ = some (.slice (some ⟨tb, 0, none⟩) l cap) ∧ w1.frozen? ⟨wb, 1, none⟩ = false ∧ wb < w1.heap.size) ∧ w1.cell? ⟨B.jb, 0, none⟩ = some (.slice (some ⟨B.lb, 0, none⟩) J.length B.lcap) ∧ w1.cell? ⟨B.lb, p, none⟩ = some (.int .i64 z) ∧ w1.ownsRow base 3 1 (.slice (some ⟨tb, 0, none⟩) l cap) l (iv out) ∧ ∀ w2, w2.ownsRow base 3 1 (.slice (some ⟨tb, 0, none⟩) (l + 1) cap) (l + 1) (iv out ++ [.int .i64 z]) → (w1.alloc (.cells #[.int .i64 z] 3)).drew.grownBy w2 (some tb) → (JAt L B (w2.setCell ⟨wb, 1, none⟩ (.slice (some ⟨tb, 0, none⟩) (l + 1) cap)) J ld sz ∧ WC base (w2.setCell ⟨wb, 1, none⟩ (.slice (some ⟨tb, 0, none⟩) (l + 1) cap)) wb B.jb tb cap (out ++ [z]) o ∧ Kept (B.Wr wb tb) w (w2.setCell ⟨wb, 1, none⟩ (.slice (some ⟨tb, 0, none⟩) (l + 1) cap))) ∧ w2.cell? ⟨wb, 1, none⟩ = some (.slice (some ⟨tb, 0, none⟩) l cap) ∧ w2.frozen? ⟨wb, 1, none⟩ = false) := by
          intro w1 hj hk
          have hW1 := hW.kept hk hwy hty
          obtain ⟨nx, ρ, hC, -⟩ := id hj
          obtain ⟨q0, q1, q2, q3, q4, q5⟩ := hW1.head.cells
          have hcl := (hC.list.cell hpl).1
          rw [hzz] at hcl
          have hr1 := hW1.row
          rw [hl'] at q1 hr1
          refine ⟨⟨q0, q1, q3, q5⟩, hC.head.cells.1, hcl, hr1, fun w2 hr hg => ?_⟩
          have kg : Kept (fun k => k = tb) w1 w2 := Kept.grown (Kept.drew (Kept.alloc (Kept.refl _ w1) _)) hg (fun k e _ => by simpa using e.symm)
          have hH : WH w1 wb B.jb (.slice (some ⟨tb, 0, none⟩) out.length cap) (nmO (vzs o z)) ((vzs o z).length : Int) := by rw [ew]; exact hW1.head
          obtain ⟨b1, b2, b3⟩ := wput_end hH hW1.ne hW1.len hW1.cap (by rw [ew, er, hl']; exact hr) kg
          rw [ew, er, hl'] at b1
          rw [hl'] at b2
          refine ⟨⟨hj.kept b1.2 (fun k hk f => by rcases f with f | f <;> subst f; exact hwb hk; exact htb hk), b1.1, (hk.mono (fun _ _ f => .inl f)).trans b1.2 (fun _ _ f => .inr f)⟩, b2, b3⟩
        clear ih h hW h2 hfit e1 e2 hOUT hOF hzz ew er hl' c1 c2 c3 c4
        go_enter Try.func36, Try.ntmps36
        go_upto_region 3 with (first | (go_at_call 55; refine cL.mono ?_; rintro e w1 ⟨rfl, hj1, hk1⟩))
        obtain ⟨⟨d0, d1, d2, d3⟩, d4, d5, hrow, PE0⟩ := CA.out w1 hj1 hk1
        have PE : Hid (∀ w2, w2.ownsRow base 3 1 (.slice (some ⟨tb, 0, none⟩) (l + 1) cap) (l + 1) (iv out ++ [.int .i64 z]) → (w1.alloc (.cells #[.int .i64 z] 3)).drew.grownBy w2 (some tb) → (JAt L B (w2.setCell ⟨wb, 1, none⟩ (.slice (some ⟨tb, 0, none⟩) (l + 1) cap)) J ld sz ∧ WC base (w2.setCell ⟨wb, 1, none⟩ (.slice (some ⟨tb, 0, none⟩) (l + 1) cap)) wb B.jb tb cap (out ++ [z]) o ∧ Kept (B.Wr wb tb) w (w2.setCell ⟨wb, 1, none⟩ (.slice (some ⟨tb, 0, none⟩) (l + 1) cap))) ∧ w2.cell? ⟨wb, 1, none⟩ = some (.slice (some ⟨tb, 0, none⟩) l cap) ∧ w2.frozen? ⟨wb, 1, none⟩ = false) := PE0
        clear PE0 CA cL hj1 hk1
        go_cut [] from 18 to 36 (fun wc => JAt L B wc J ld sz ∧ WC base wc wb B.jb tb cap (out ++ [z]) o ∧ Kept (B.Wr wb tb) w wc)
        case first =>
          clear IH H2 HO HF1 hF
          go_region_law (refine step_fits (by rfl) _ _ 25 (by rfl) base 3 i0 1 Try.underlying25 hi0 hz1 tb l cap (iv out) (by rfl) ((hrow.alloc _).drew) ⟨w1.heap.size, 0, none⟩ 1 1 [.int .i64 z] (by rfl) (by rfl) (World.news_of_block (cs := #[.int .i64 z]) (t := 3) (fr := (0, 0)) (heap_alloc_new w1 _)) (by simp [Value.oneCell']) hf1 ?_; intro w2 hown hgrow; obtain ⟨hP, g1, g2⟩ := PE.out w2 hown hgrow)
          all_goals
            go_wp2_with fail
            go_meet
            exact hP
        case rest =>
          obtain ⟨hj, hW, hK⟩ := hcut
          clear PE hrow d0 d1 d2 d3 d4 d5
          go_wp2_with fail
          go_loopg [5] (arN L (at' J p)) (fun c s5 wr => ∃ (t : Nat) (out' o' u' : List Int), s5 = .int .i64 (t : Int) ∧ Forest L J c t (endN L J p) ∧ Hid (argsT (tmF L J ld d) (starts L J c t) = some u' ∧ OUT = out' ++ wrF o' u' ∧ OF = vz o' u' ∧ out'.length + u'.length ≤ cap) ∧ JAt L B wr J ld sz ∧ WC base wr wb B.jb tb cap out' o' ∧ Kept (B.Wr wb tb) w wr)
          case atStart => exact ⟨p + 1, out ++ [z], o, us, by go_num, hF, ⟨H2.out, HO.out.1, HO.out.2, by have := HF1.out; simp; omega⟩, hj, hW, hK⟩
          case round =>
            clear hj hW hK H2 HO HF1 hF
            obtain ⟨t, out', o', u', rfl, hF, HS, hj, hW, hK⟩ := hrel
            obtain ⟨nx, ρ, hC, -⟩ := id hj
            obtain ⟨c0, c1, c2, c3, c4⟩ := hC.head.cells
            obtain ⟨b0, b1, b2, b3, b4, b5⟩ := hW.head.cells
            have ce := (hC.ends.cell hpl).1
            cases gk with
            | zero =>
              have ht := hF.zero
              have i4 : ¬ (t : Int) < (endN L J p : Int) := by omega
              have fin : JAt L B wr J ld sz ∧ WC base wr wb B.jb tb cap OUT OF ∧ Kept (B.Wr wb tb) w wr := by
                obtain ⟨a1, a2, a3, a4⟩ := HS.out
                simp only [starts, argsT, Option.some.injEq] at a1
                subst a1
                rw [a2, a3]
                exact ⟨hj, by simpa [wrF, vz] using hW, hK⟩
              obtain ⟨f1, f2, f3⟩ := fin
              clear hC hj HS hF hW ht hK
              go_wp2_with fail
              go_returns
              exact ⟨⟨_, rfl⟩, f1, f2, f3⟩
            | succ c =>
              have hpos := hF.pos
              obtain ⟨f1, f2, f3⟩ := hF.succ
              have hle := hF.le
              have htl : t < J.length := by omega
              have i4 : (t : Int) < (endN L J p : Int) := by omega
              have i5 : (0 : Int) ≤ (t : Int) := by omega
              have i6 : (t : Int) < (J.length : Int) := by omega
              obtain ⟨a1, a2, a3, a4⟩ := HS.out
              rw [starts, argsT] at a1
              cases hq : tmF L J ld d (t : Int) with
              | none => simp [hq] at a1
              | some ua =>
                cases hq2 : argsT (tmF L J ld d) (starts L J c (endN L J t)) with
                | none => simp [hq, hq2] at a1
                | some ub =>
                  simp only [hq, hq2, Option.some.injEq] at a1
                  subst a1
                  have cW := IH.out wr t ua out' o' hj (part_nat htl) hq hW (by simp at a4; omega)
                  have HN : Hid (argsT (tmF L J ld d) (starts L J c (endN L J t)) = some ub ∧ OUT = (out' ++ wrF o' ua) ++ wrF (vz o' ua) ub ∧ OF = vz (vz o' ua) ub ∧ (out' ++ wrF o' ua).length + ub.length ≤ cap) := by
                    refine ⟨hq2, ?_, ?_, ?_⟩
                    · rw [a2, wrF_append, List.append_assoc]
                    · rw [a3, vz_append]
                    · rw [List.length_append, wrF_length]; simp at a4; omega
                  have CE : Hid (∀ w1, JAt L B w1 J ld sz → WC base w1 wb B.jb tb cap (out' ++ wrF o' ua) (vz o' ua) → w1.cell? ⟨wb, 0, none⟩ = some (.pointer (some ⟨B.jb, 0, none⟩)) ∧ w1.cell? ⟨B.jb, 1, none⟩ = some (.slice (some ⟨B.eb, 0, none⟩) J.length J.length) ∧ w1.cell? ⟨B.eb, t, none⟩ = some (.int .i64 (endN L J t : Int))) := by
                    rintro w1 ⟨nx, ρ, hC, -⟩ hw
                    exact ⟨hw.head.cells.1, hC.head.cells.2.1, (hC.ends.cell htl).1⟩
                  clear hC hj HS hq hq2 hW IH a2 a3 a4
                  go_wp2_with (first | (go_at_call 36; refine cW.mono ?_; rintro e w3 ⟨⟨rr, rfl⟩, hj3, hw3, hk3⟩; obtain ⟨g0, g1, g2⟩ := CE.out w3 hj3 hw3))
                  go_roundg c
                  case measure => omega
                  case rel => exact ⟨_, _, _, ub, rfl, f3, HN, hj3, hw3, hK.trans hk3 (fun _ _ f => f)⟩
end Go.Proofs.Ythhcnllabhfejaa
