/- Variables and Plain in plain words. -/
import Derived.Test.YthhcnllabhfejaaTermPlain
namespace Go.Proofs.Ythhcnllabhfejaa
set_option linter.unusedVariables false
def vstep (o : List Int) (x : Int) : List Int := if isV x = true ∧ ¬ (-x) ∈ o then o ++ [-x] else o
/-- The variables met, when those of o were met before. -/
def vs (o : List Int) (t : List Int) : List Int := t.foldl vstep o
def varsL (t : List Int) : List Int := vs [] t
theorem vs_nil (o : List Int) : vs o [] = o := rfl
theorem vs_append (o a b : List Int) : vs o (a ++ b) = vs (vs o a) b := by simp [vs]
theorem vs_snoc (o a : List Int) (x : Int) : vs o (a ++ [x]) = vstep (vs o a) x := by simp [vs]
theorem vs_take {o t : List Int} {k : Nat} (h : k < t.length) : vs o (t.take (k + 1)) = vstep (vs o (t.take k)) t[k] := by
  rw [List.take_add_one, List.getElem?_eq_getElem h]; exact vs_snoc _ _ _
theorem isV_iff {x : Int} : isV x = true ↔ -99 ≤ x ∧ x ≤ -1 := by simp [isV]
theorem vstep_sub (o : List Int) (x : Int) : o <+: vstep o x := by
  unfold vstep
  split
  · exact List.prefix_append _ _
  · exact List.prefix_refl _
theorem vs_sub (o t : List Int) : o <+: vs o t := by
  induction t generalizing o with
  | nil => exact List.prefix_refl _
  | cons x r ih => exact (vstep_sub o x).trans (ih (vstep o x))
/-- Each a variable's, none twice. -/
def Neat (o : List Int) : Prop := o.Nodup ∧ ∀ v ∈ o, 1 ≤ v ∧ v ≤ 99
theorem neat_nil : Neat [] := ⟨List.nodup_nil, by simp⟩
theorem neat_step {o : List Int} (h : Neat o) (x : Int) : Neat (vstep o x) := by
  unfold vstep
  split
  · rename_i hx
    refine ⟨?_, ?_⟩
    · rw [List.nodup_append]
      exact ⟨h.1, by simp, fun a ha b hb => by simp at hb; subst hb; intro e; subst e; exact hx.2 ha⟩
    · intro v hv
      rcases List.mem_append.1 hv with hv | hv
      · exact h.2 v hv
      · simp at hv; have := isV_iff.1 hx.1; omega
  · exact h
theorem neat_vs {o : List Int} (h : Neat o) (t : List Int) : Neat (vs o t) := by
  induction t generalizing o with
  | nil => exact h
  | cons x r ih => exact ih (neat_step h x)
theorem vs_mem {o t : List Int} {x : Int} (hx : x ∈ t) (hv : isV x = true) : -x ∈ vs o t := by
  induction t generalizing o with
  | nil => simp at hx
  | cons y r ih =>
    rcases List.mem_cons.1 hx with rfl | hx
    · have h1 : -x ∈ vstep o x := by
        unfold vstep
        split
        · simp
        · rename_i h; simp [hv] at h; exact h
      exact (vs_sub (vstep o x) r).subset h1
    · exact ih hx
theorem vs_len (o t : List Int) : (vs o t).length ≤ o.length + t.length := by
  induction t generalizing o with
  | nil => simp [vs]
  | cons x r ih =>
    have := ih (vstep o x)
    have h2 : (vstep o x).length ≤ o.length + 1 := by unfold vstep; split <;> simp
    simp only [vs, List.foldl_cons, List.length_cons] at *
    omega
/-- The variables of a list, taken alone, say as much as the list. -/
theorem vs_vars (o t : List Int) : vs o ((varsL t).map (fun v => -v)) = vs o t := by
  suffices h : ∀ k, k ≤ t.length → vs o ((varsL (t.take k)).map (fun v => -v)) = vs o (t.take k) by
    have := h t.length (Nat.le_refl _)
    rwa [List.take_length] at this
  intro k
  induction k with
  | zero => intro _; simp [varsL, vs]
  | succ k ih =>
    intro hk
    have hk' : k < t.length := by omega
    have ih := ih (by omega)
    rw [vs_take hk', varsL, vs_take hk']
    have e : vs [] (t.take k) = varsL (t.take k) := rfl
    rw [e]
    by_cases hx : isV t[k] = true ∧ ¬ (-t[k]) ∈ varsL (t.take k)
    · have e1 : vstep (varsL (t.take k)) t[k] = varsL (t.take k) ++ [-t[k]] := by rw [vstep, if_pos hx]
      rw [e1, List.map_append, vs_append, ih]
      simp [vs]
    · have e1 : vstep (varsL (t.take k)) t[k] = varsL (t.take k) := by rw [vstep, if_neg hx]
      rw [e1, ih]
      by_cases hv : isV t[k] = true
      · have hin : -t[k] ∈ varsL (t.take k) := by simpa [hv] using hx
        have hx2 : -t[k] ∈ vs o (t.take k) := by
          rw [← ih]
          have h3 := (neat_vs neat_nil (t.take k)).2 _ hin
          have := vs_mem (o := o) (t := (varsL (t.take k)).map (fun v => -v)) (x := t[k]) (by simp; exact ⟨-t[k], hin, by omega⟩) hv
          exact this
        rw [vstep, if_neg (by simp [hx2])]
      · rw [vstep, if_neg (by simp [hv])]
/-- The order of the variables of some lists. -/
def orderL (ls : List (List Int)) : List Int := vs [] ls.flatten
def allV (ls : List (List Int)) : List Int := (ls.map fun t => (varsL t).map (fun v => -v)).flatten
theorem order_all (ls : List (List Int)) : varsL (allV ls) = orderL ls := by
  suffices h : ∀ o, vs o (allV ls) = vs o ls.flatten by exact h []
  intro o
  induction ls generalizing o with
  | nil => rfl
  | cons t r ih =>
    simp only [allV, List.map_cons, List.flatten_cons] at *
    rw [vs_append, vs_append, vs_vars, ih]
/-- A number, numbered anew. -/
def pl (o : List Int) (x : Int) : Int := if isV x = true then -((o.idxOf (-x) : Int) + 1) else x
def plains (ls : List (List Int)) : List (List Int) := ls.map fun t => t.map (pl (orderL ls))
theorem idx_prefix {o o' : List Int} (h : o <+: o') {v : Int} (hv : v ∈ o) : o'.idxOf v = o.idxOf v := by
  obtain ⟨r, rfl⟩ := h
  rw [List.idxOf_append, if_pos hv]
theorem idx_of {o : List Int} (h : o.Nodup) {i : Nat} (hi : i < o.length) : o.idxOf o[i] = i := List.Nodup.idxOf_getElem h i hi
end Go.Proofs.Ythhcnllabhfejaa
