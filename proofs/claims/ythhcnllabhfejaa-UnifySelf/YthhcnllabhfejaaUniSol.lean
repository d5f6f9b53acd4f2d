/- What unify, overlap and clash answer, in plain words. -/
import Derived.Test.YthhcnllabhfejaaUniSize
import Derived.Test.YthhcnllabhfejaaUniWr
namespace Go.Proofs.Ythhcnllabhfejaa
set_option linter.unusedVariables false
/-- Two terms made the same: what leads where, and the size; none: they cannot. -/
def solF (L : List Sym) (J : List Int) (m : Nat) : Option ((Int → Int) × Int) :=
  match uniF L J ((J.length + 1) * J.length + J.length + 3) (ld0 J) [(0, endN L J 0, m)] with
  | some (some ld) =>
    match sizF L J ld (J.length + 1) (fun _ => 0) 0 with
    | some (k, _) => if k = -1 then none else some (ld, k)
    | none => none
  | _ => none
def comE (L : List Sym) (a b : List Int) (ap : Int) : Int :=
  if checkE L a ≠ 0 then checkE L a else if checkE L b ≠ 0 then checkE L b else
  match solF L (jl a b ap) a.length with
  | none => 60
  | some (_, k) => if 2000 < k then 20 else 0
def comT (L : List Sym) (a b : List Int) (ap : Int) : List Int :=
  if comE L a b ap = 0 then
    match solF L (jl a b ap) a.length with
    | none => []
    | some (ld, _) => wrF [] ((tmF L (jl a b ap) ld 2000 0).getD [])
  else []
theorem argsT_depth {L : List Sym} {J : List Int} {ld : Int → Int} {d : Nat} (ih : ∀ (x : Int) (u : List Int), tmF L J ld d x = some u → tmF L J ld u.length x = some u) {n : Nat} : ∀ (l : List Nat) (u : List Int), argsT (tmF L J ld d) l = some u → u.length ≤ n → argsT (tmF L J ld n) l = some u
  | [], u, e, _ => e
  | x :: r, u, e, hn => by
    unfold argsT at e ⊢
    cases h1 : tmF L J ld d (x : Int) with
    | none => simp [h1] at e
    | some a =>
      cases h2 : argsT (tmF L J ld d) r with
      | none => simp [h1, h2] at e
      | some b =>
        simp only [h1, h2, Option.some.injEq] at e
        subst e
        rw [List.length_append] at hn
        have h3 := argsT_depth (n := n) ih r b h2 (by omega)
        simp only [tmF_le (show a.length ≤ n by omega) (ih _ _ h1), h3]
theorem tmF_depth {L : List Sym} {J : List Int} {ld : Int → Int} : ∀ (d : Nat) (x : Int) (u : List Int), tmF L J ld d x = some u → tmF L J ld u.length x = some u := by
  intro d
  induction d with
  | zero => intro x u h; simp [tmF] at h
  | succ d ih =>
    intro x u h
    rw [tmF] at h
    by_cases h1 : ld x < 0
    · rw [if_pos h1] at h
      simp only [Option.some.injEq] at h
      subst h
      show tmF L J ld 1 x = _
      rw [tmF, if_pos h1]
    · rw [if_neg h1] at h
      cases h2 : argsT (tmF L J ld d) (kidsL L J (ld x).toNat) with
      | none => simp [h2] at h
      | some v =>
        simp only [h2, Option.some.injEq] at h
        subst h
        rw [List.length_cons, tmF, if_neg h1, argsT_depth ih _ _ h2 (Nat.le_refl _)]
theorem Val.tm {L : List Sym} {J : List Int} {ld : Int → Int} {x : Int} {u : List Int} (h : Val L J ld x u) {n : Nat} (hn : u.length ≤ n) : tmF L J ld n x = some u := by
  obtain ⟨d, hd⟩ := h
  exact tmF_le hn (tmF_depth d x u hd)
/-- What solve has, in plain words. -/
structure Sol (L : List Sym) (J : List Int) (m : Nat) : Prop where
  uni : ∃ res, UOk L J res ((J.length + 1) * J.length + J.length + 3) (ld0 J) [(0, endN L J 0, m)] ∧ (res = none → solF L J m = none) ∧ ∀ ld, res = some ld → LdOk J ld ∧ ∃ k sz', sizF L J ld (J.length + 1) (fun _ => 0) 0 = some (k, sz') ∧ (k = -1 → solF L J m = none) ∧ (k ≠ -1 → solF L J m = some (ld, k) ∧ ∃ u, Val L J ld 0 u ∧ k = min (u.length : Int) 2001)
theorem unk_le (N : Nat) (sz : Nat → Int) : unk N sz ≤ N := by
  have := List.countP_le_length (p := fun p : Nat => decide (sz p = 0)) (l := List.range N)
  simpa [unk] using this
theorem sol_any {L : List Sym} {J : List Int} (hT : Trs L J) (hv : ∀ x ∈ J, -198 ≤ x) {m : Nat} (h0 : 0 < J.length) (hm : m < J.length) : Sol L J m := by
  have hl := ld0_ok hv
  have hr : RunOk L J (0, endN L J 0, m) := ⟨1, endN L J m, hT 0 h0, hT m hm⟩
  have hroot := roots_len J (ld0 J)
  have he := hT.lt h0
  have hb : (J.length + 1) * roots J (ld0 J) + runsN [(0, endN L J 0, m)] < (J.length + 1) * J.length + J.length + 3 := by
    have := Nat.mul_le_mul_left (J.length + 1) hroot
    simp only [runsN]; omega
  obtain ⟨res, e1, e2⟩ := uni_ends hT _ _ _ hl (fun r hr' => by simp at hr'; rw [hr']; exact hr) hb
  refine ⟨res, ⟨hT, hl, fun r hr' => by simp at hr'; rw [hr']; exact hr, e1, by simp; omega⟩, ?_, ?_⟩
  · intro e
    rw [e] at e1
    unfold solF; rw [e1]
  · intro ld e
    have hld := e2 ld e
    rw [e] at e1
    have hz : SzOk (fun _ => 0) := fun p => .inr ⟨by simp, by simp⟩
    have hk : Known L J ld (fun _ => 0) := fun p _ _ h => by simp at h
    have p0 : UPart J 0 := part_nat (p := 0) h0
    obtain ⟨k, sz', g1, g2⟩ := sizF_ends hT hld (J.length + 1) (fun _ => 0) 0 p0 hz (by have := unk_le J.length (fun _ => 0); omega)
    obtain ⟨-, g4⟩ := sizF_known hT hld _ _ _ _ _ p0 hz hk g1
    refine ⟨hld, k, sz', g1, ?_, ?_⟩
    · intro e
      unfold solF; rw [e1]; simp only [g1]; rw [if_pos e]
    · intro e
      refine ⟨by unfold solF; rw [e1]; simp only [g1]; rw [if_neg e], g4 e⟩
theorem Sol.val {L : List Sym} {J : List Int} {m : Nat} (h : Sol L J m) {ld : Int → Int} {k : Int} (hs : solF L J m = some (ld, k)) : (∃ n, uniF L J n (ld0 J) [(0, endN L J 0, m)] = some (some ld)) ∧ LdOk J ld ∧ ∃ u, Val L J ld 0 u ∧ k = min (u.length : Int) 2001 := by
  obtain ⟨res, h1, h2, h3⟩ := h.uni
  cases res with
  | none => rw [h2 rfl] at hs; cases hs
  | some ld' =>
    obtain ⟨g1, k', sz', g2, g3, g4⟩ := h3 ld' rfl
    by_cases e : k' = -1
    · rw [g3 e] at hs; cases hs
    · obtain ⟨f1, f2⟩ := g4 e
      rw [f1] at hs
      simp only [Option.some.injEq, Prod.mk.injEq] at hs
      obtain ⟨rfl, rfl⟩ := hs
      exact ⟨⟨_, h1.eq⟩, g1, f2⟩
end Go.Proofs.Ythhcnllabhfejaa
