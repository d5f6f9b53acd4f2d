/- The walks of end, Check, checkPlace of package term. -/
import Derived.Test.YtikcocjbbbdmgaaTermBase
namespace Go.Proofs.Ytikcocjbbbdmgaa
set_option maxRecDepth 100000
open Go.RowKit
attribute [local go_sem ↓] Go.wp_at_zero Go.wp_at_succ
def endI (L : List Sym) (t : List Int) (p : Nat) : Int := match endO L t p with | some e => (e : Int) | none => -1
theorem endO_round {L : List Sym} {t : List Int} {p0 p k : Nat} (h : endO L t p0 = (scan L (k + 1) (t.drop p)).map (p + ·)) (hp : p < t.length) : endO L t p0 = (scan L (k + arN L t[p]) (t.drop (p + 1))).map (p + 1 + ·) := by
  rw [h, List.drop_eq_getElem_cons hp, scan, Option.map_map]
  congr 1
  funext x
  simp; omega
theorem endO_stop {L : List Sym} {t : List Int} {p0 p : Nat} (h : endO L t p0 = (scan L 0 (t.drop p)).map (p + ·)) : endI L t p0 = (p : Int) := by
  simp [endI, h, scan_zero]
theorem endO_none {L : List Sym} {t : List Int} {p0 p k : Nat} (h : endO L t p0 = (scan L (k + 1) (t.drop p)).map (p + ·)) (hp : t.length ≤ p) : endI L t p0 = -1 := by
  rw [List.drop_eq_nil_of_le hp] at h
  simp [endI, h, scan]
theorem badE_step {L : List Sym} {t : List Int} {p : Nat} (hp : p < t.length) (h : badE L (t.take p) = 0) : (numE L t[p] ≠ 0 → badE L t = numE L t[p]) ∧ (numE L t[p] = 0 → badE L (t.take (p + 1)) = 0) := by
  have e : t = t.take p ++ (t[p] :: t.drop (p + 1)) := by rw [← List.drop_eq_getElem_cons hp, List.take_append_drop]
  constructor
  · intro hn
    have h2 := badE_append L (t.take p) (t[p] :: t.drop (p + 1)) h
    rw [← e] at h2
    rw [h2, badE]
    unfold numE at hn ⊢
    by_cases q1 : (L.length : Int) ≤ t[p]
    · rw [if_pos q1, if_pos q1]
    · rw [if_neg q1, if_neg q1]
      rw [if_neg q1] at hn
      by_cases q2 : t[p] < -99
      · rw [if_pos q2, if_pos q2]
      · rw [if_neg q2] at hn; exact absurd rfl hn
  · intro hn
    rw [List.take_add_one, badE_append _ _ _ h, List.getElem?_eq_getElem hp]
    simpa [badE, numE] using hn
theorem checkE_long {L : List Sym} {t : List Int} (h : 2000 < t.length) : checkE L t = 20 := by simp [checkE, h]
theorem checkE_bad {L : List Sym} {t : List Int} (h : ¬ 2000 < t.length) (hb : badE L t ≠ 0) : checkE L t = badE L t := by simp [checkE, h, hb]
theorem checkE_end {L : List Sym} {t : List Int} (h : ¬ 2000 < t.length) (hb : badE L t = 0) : checkE L t = if endI L t 0 = (t.length : Int) then 0 else 23 := by
  have e : endI L t 0 = (t.length : Int) ↔ need L 1 t = some 0 := by
    constructor
    · intro h
      unfold endI endO at h
      cases hs : scan L 1 t with
      | none => simp [hs] at h
      | some m =>
        simp [hs] at h
        obtain rfl : m = t.length := by omega
        have := (scan_need hs).2
        simpa using this
    · intro h
      have := need_scan (b := []) h
      rw [List.append_nil] at this
      simp [endI, endO, this]
  simp only [checkE, h, hb, if_false, ne_eq, not_true, e]
end Go.Proofs.Ytikcocjbbbdmgaa
