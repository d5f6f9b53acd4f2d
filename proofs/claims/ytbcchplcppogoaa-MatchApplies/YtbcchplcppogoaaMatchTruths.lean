/- What fits is made again, and an instance fits: in plain words; no program in sight. -/
import Derived.Test.YtbcchplcppogoaaMatchApply
import Derived.Test.YtbcchplcppogoaaMatchFace
namespace Go.Proofs.Ytbcchplcppogoaa
set_option linter.unusedVariables false
/-- The variable's number of a negative one. -/
def vn (n : Int) : Nat := (-n).toNat
theorem mw_ext {L : List Sym} {p ts : List Int} {σ σ' : Tb} (he : Even L p ts) (h : mw L p ts σ = some σ') : ∀ v, σ v ≠ [] → σ' v = σ v := by
  induction p generalizing ts σ with
  | nil => simp [mw] at h; subst h; intros; rfl
  | cons n r ih =>
    obtain ⟨x, ts', rfl, h1, h2⟩ := he.cons
    intro v hv
    by_cases hn : 0 ≤ n
    · rw [mw_sym hn] at h
      by_cases e : x = n
      · rw [if_pos e] at h; exact ih (h1 hn e) h v hv
      · rw [if_neg e] at h; cases h
    · obtain ⟨m, g1, g2, g3, g4, g5, g6⟩ := h2 hn
      by_cases hs : σ (-n).toNat = []
      · rw [mw_new hn hs, g5] at h
        have hne : v ≠ (-n).toNat := fun e => hv (by rw [e]; exact hs)
        have := ih g6 h v (by rw [upd_else hne]; exact hv)
        rw [this, upd_else hne]
      · rw [mw_old hn hs, g5] at h
        split at h
        · exact ih g6 h v hv
        · cases h
theorem mw_made {L : List Sym} {p ts : List Int} {σ σ' : Tb} (he : Even L p ts) (h : mw L p ts σ = some σ') : appT σ' p = ts := by
  induction p generalizing ts σ with
  | nil => rw [he.nil]; rfl
  | cons n r ih =>
    obtain ⟨x, ts', rfl, h1, h2⟩ := he.cons
    by_cases hn : 0 ≤ n
    · rw [mw_sym hn] at h
      by_cases e : x = n
      · rw [if_pos e] at h
        rw [app_cons, ih (h1 hn e) h, inst, if_pos (.inl hn), e]; rfl
      · rw [if_neg e] at h; cases h
    · obtain ⟨m, g1, g2, g3, g4, g5, g6⟩ := h2 hn
      have hne : headT L (x :: ts') ≠ [] := fun e => by rw [e] at g5; simp at g5; omega
      have fin : σ' (-n).toNat = headT L (x :: ts') → appT σ' r = (x :: ts').drop m → appT σ' (n :: r) = x :: ts' := fun q1 q2 => by
        rw [app_cons, q2, inst, if_neg (by rw [q1]; simp [hne, hn]), q1, g4, List.take_append_drop]
      by_cases hs : σ (-n).toNat = []
      · rw [mw_new hn hs, g5] at h
        refine fin ?_ (ih g6 h)
        have := mw_ext g6 h (-n).toNat (by rw [upd_same]; exact hne)
        rw [this, upd_same]
      · rw [mw_old hn hs, g5] at h
        split at h
        · rename_i hq
          exact fin (by rw [mw_ext g6 h _ hs, hq]) (ih g6 h)
        · cases h
theorem mw_vars {L : List Sym} {p ts : List Int} {σ σ' : Tb} (he : Even L p ts) (h : mw L p ts σ = some σ') (v : Nat) : σ' v ≠ [] ↔ (σ v ≠ [] ∨ ∃ n ∈ p, n < 0 ∧ (-n).toNat = v) := by
  induction p generalizing ts σ with
  | nil => simp [mw] at h; subst h; simp
  | cons n r ih =>
    obtain ⟨x, ts', rfl, h1, h2⟩ := he.cons
    by_cases hn : 0 ≤ n
    · rw [mw_sym hn] at h
      by_cases e : x = n
      · rw [if_pos e] at h
        rw [ih (h1 hn e) h]
        constructor
        · rintro (q | ⟨y, q1, q2⟩)
          · exact .inl q
          · exact .inr ⟨y, List.mem_cons_of_mem _ q1, q2⟩
        · rintro (q | ⟨y, q1, q2, q3⟩)
          · exact .inl q
          · rcases List.mem_cons.1 q1 with q | q
            · subst q; omega
            · exact .inr ⟨y, q, q2, q3⟩
      · rw [if_neg e] at h; cases h
    · obtain ⟨m, g1, g2, g3, g4, g5, g6⟩ := h2 hn
      have hne : headT L (x :: ts') ≠ [] := fun e => by rw [e] at g5; simp at g5; omega
      have key : ∀ τ : Tb, (∀ u, τ u ≠ [] ↔ (σ u ≠ [] ∨ u = (-n).toNat)) → (σ' v ≠ [] ↔ (τ v ≠ [] ∨ ∃ n ∈ r, n < 0 ∧ (-n).toNat = v)) → (σ' v ≠ [] ↔ (σ v ≠ [] ∨ ∃ y ∈ n :: r, y < 0 ∧ (-y).toNat = v)) := fun τ q1 q2 => by
        rw [q2, q1]
        constructor
        · rintro ((q | q) | ⟨y, q3, q4⟩)
          · exact .inl q
          · exact .inr ⟨n, by simp, by omega, q.symm⟩
          · exact .inr ⟨y, List.mem_cons_of_mem _ q3, q4⟩
        · rintro (q | ⟨y, q3, q4, q5⟩)
          · exact .inl (.inl q)
          · rcases List.mem_cons.1 q3 with q | q
            · subst q; exact .inl (.inr q5.symm)
            · exact .inr ⟨y, q, q4, q5⟩
      by_cases hs : σ (-n).toNat = []
      · rw [mw_new hn hs, g5] at h
        refine key _ (fun u => ?_) (ih g6 h)
        by_cases e : u = (-n).toNat
        · subst e; rw [upd_same]; simp [hne]
        · rw [upd_else e]; simp [e]
      · rw [mw_old hn hs, g5] at h
        split at h
        · refine key σ (fun u => ?_) (ih g6 h)
          constructor
          · exact .inl
          · rintro (q | q)
            · exact q
            · rw [q]; exact hs
        · cases h
theorem sub_check {L : List Sym} {ts : List Int} {m : Nat} (hb : badE L ts = 0) (hl : ts.length ≤ 2000) (h : scan L 1 ts = some m) : checkE L (ts.take m) = 0 := by
  obtain ⟨h1, h2⟩ := scan_need h
  refine checkE_zero.2 ⟨by rw [List.length_take]; omega, ?_, h2⟩
  rw [badE_zero] at hb ⊢
  exact fun x hx => hb x (List.mem_of_mem_take hx)
theorem mw_good {L : List Sym} {p ts : List Int} {σ σ' : Tb} (he : Even L p ts) (hb : badE L ts = 0) (hl : ts.length ≤ 2000) (h : mw L p ts σ = some σ') (hσ : ∀ v, σ v ≠ [] → checkE L (σ v) = 0) : ∀ v, σ' v ≠ [] → checkE L (σ' v) = 0 := by
  induction p generalizing ts σ with
  | nil => simp [mw] at h; subst h; exact hσ
  | cons n r ih =>
    obtain ⟨x, ts', rfl, h1, h2⟩ := he.cons
    have hbd : ∀ m, badE L ((x :: ts').drop m) = 0 := fun m => by
      rw [badE_zero] at hb ⊢
      exact fun y hy => hb y (List.mem_of_mem_drop hy)
    by_cases hn : 0 ≤ n
    · rw [mw_sym hn] at h
      by_cases e : x = n
      · rw [if_pos e] at h
        exact ih (h1 hn e) (hbd 1) (by simp at hl; omega) h hσ
      · rw [if_neg e] at h; cases h
    · obtain ⟨m, g1, g2, g3, g4, g5, g6⟩ := h2 hn
      have hdl : ((x :: ts').drop m).length ≤ 2000 := by rw [List.length_drop]; omega
      by_cases hs : σ (-n).toNat = []
      · rw [mw_new hn hs, g5] at h
        refine ih g6 (hbd m) hdl h (fun v hv => ?_)
        by_cases e : v = (-n).toNat
        · subst e; rw [upd_same, g4]; exact sub_check hb hl g1
        · rw [upd_else e] at hv ⊢; exact hσ v hv
      · rw [mw_old hn hs, g5] at h
        split at h
        · exact ih g6 (hbd m) hdl h hσ
        · cases h
/-! ### the table of the binds told -/
def cutT (σ : Tb) (n : Nat) : Tb := fun v => if v < n then σ v else []
theorem tab_bl {L : List Sym} {σ : Tb} (h0 : σ 0 = []) (hg : ∀ v, σ v ≠ [] → checkE L (σ v) = 0) (n : Nat) (hn : n ≤ 100) (rest : List Bd) : tabF L (blN σ n ++ rest) noT = tabF L rest (cutT σ n) := by
  induction n generalizing rest with
  | zero => rw [blN_zero]; congr 1
  | succ n ih =>
    have hc : ∀ u, cutT σ (n + 1) u = if u = n then σ n else cutT σ n u := fun u => by
      unfold cutT
      by_cases e : u = n
      · subst e; simp
      · by_cases e2 : u < n
        · rw [if_pos (by omega), if_neg e, if_pos e2]
        · rw [if_neg (by omega), if_neg e, if_neg e2]
    by_cases hs : σ n = []
    · rw [blN_no hs, ih (by omega)]
      congr 1
      funext u
      rw [hc u]
      split
      · rename_i e; rw [e, hs]; simp [cutT]
      · rfl
    · have h1 : n ≠ 0 := fun e => hs (by rw [e]; exact h0)
      rw [blN_yes hs, List.append_assoc, ih (by omega)]
      rw [List.cons_append, List.nil_append, tab_go (by simp [cutT]; omega) (hg n hs)]
      congr 1
      funext u
      rw [hc u]
      simp [updT]
theorem bl_pair (σ : Tb) (n : Nat) : (blN σ n).Pairwise (fun a b => a.1 < b.1) := by
  induction n with
  | zero => simp [blN]
  | succ n ih =>
    by_cases hs : σ n = []
    · rw [blN_no hs]; exact ih
    · rw [blN_yes hs, List.pairwise_append]
      refine ⟨ih, by simp, fun a ha b hb => ?_⟩
      simp at hb; subst hb
      obtain ⟨y, hy, rfl, _⟩ := blN_mem ha
      simp; omega
theorem bl_rise {σ : Tb} {n i : Nat} (h : i + 1 < (blN σ n).length) : (blN σ n)[i].1 < (blN σ n)[i + 1].1 :=
  List.pairwise_iff_getElem.1 (bl_pair σ n) i (i + 1) (by omega) h (by omega)
theorem vs_from {o t : List Int} {v : Int} (h : v ∈ vs o t) : v ∈ o ∨ ∃ x ∈ t, isV x = true ∧ v = -x := by
  induction t generalizing o with
  | nil => exact .inl h
  | cons y r ih =>
    rcases ih (o := vstep o y) h with q | ⟨x, q1, q2⟩
    · unfold vstep at q
      split at q
      · rename_i hy
        rcases List.mem_append.1 q with q | q
        · exact .inl q
        · simp at q; exact .inr ⟨y, by simp, hy.1, q⟩
      · exact .inl q
    · exact .inr ⟨x, List.mem_cons_of_mem _ q1, q2⟩
theorem bl_mem_iff {σ : Tb} {n v : Nat} (hv : v < n) : ((v : Int), σ v) ∈ blN σ n ↔ σ v ≠ [] := by
  constructor
  · intro h
    obtain ⟨y, hy, e, hne⟩ := blN_mem h
    have : y = v := by have := congrArg Prod.fst e; simp at this; omega
    subst this; exact hne
  · intro h
    exact List.mem_map.2 ⟨v, by simp [h, hv], rfl⟩
/-- As many binds as variables. -/
theorem bl_count {σ : Tb} {p : List Int} (hp : ∀ x ∈ p, -99 ≤ x) (h : ∀ v, σ v ≠ [] ↔ ∃ n ∈ p, n < 0 ∧ (-n).toNat = v) : (blN σ 100).length = (varsL p).length := by
  have h1 : ((blN σ 100).map Prod.fst).Nodup := by
    rw [List.nodup_iff_pairwise_ne, List.pairwise_map]
    exact (bl_pair σ 100).imp (fun q => by omega)
  have h2 : (varsL p).Nodup := (neat_vs neat_nil p).1
  have h3 : ((blN σ 100).map Prod.fst).Perm (varsL p) := by
    rw [List.perm_ext_iff_of_nodup h1 h2]
    intro z
    constructor
    · intro hz
      obtain ⟨b, hb, rfl⟩ := List.mem_map.1 hz
      obtain ⟨v, hv, rfl, hne⟩ := blN_mem hb
      obtain ⟨n, hn, hn0, rfl⟩ := (h v).1 hne
      have := vs_mem (o := []) hn (isV_iff.2 ⟨hp n hn, by omega⟩)
      have e : (((-n).toNat : Nat) : Int) = -n := by omega
      simpa [e, varsL] using this
    · intro hz
      rcases vs_from hz with q | ⟨x, q1, q2, rfl⟩
      · simp at q
      · obtain ⟨q3, q4⟩ := isV_iff.1 q2
        have hne : σ (-x).toNat ≠ [] := (h _).2 ⟨x, q1, by omega, rfl⟩
        have := (bl_mem_iff (σ := σ) (n := 100) (v := (-x).toNat) (by omega)).2 hne
        exact List.mem_map.2 ⟨_, this, by simp; omega⟩
  have := h3.length_eq
  simpa using this
theorem fits_tab {L : List Sym} {p ts : List Int} {σ : Tb} (hp : ∀ x ∈ p, -99 ≤ x) (he : Even L p ts) (hb : badE L ts = 0) (hl : ts.length ≤ 2000) (h : mw L p ts noT = some σ) : tabF L (blN σ 100) noT = .ok σ ∧ (∀ v, σ v ≠ [] ↔ ∃ n ∈ p, n < 0 ∧ (-n).toNat = v) := by
  have hv : ∀ v, σ v ≠ [] ↔ ∃ n ∈ p, n < 0 ∧ (-n).toNat = v := fun v => by
    rw [mw_vars he h v]; simp [noT]
  have hg := mw_good he hb hl h (fun v q => by simp [noT] at q)
  have hz : ∀ v, 100 ≤ v ∨ v = 0 → σ v = [] := fun v q => Classical.byContradiction fun hne => by
    obtain ⟨n, hn, hn0, rfl⟩ := (hv v).1 hne
    have := hp n hn
    omega
  refine ⟨?_, hv⟩
  have := tab_bl (hz 0 (.inr rfl)) hg 100 (Nat.le_refl _) []
  rw [List.append_nil] at this
  rw [this]
  show Except.ok (cutT σ 100) = _
  congr 1
  funext v
  unfold cutT
  split
  · rfl
  · exact (hz v (.inl (by omega))).symm
theorem match_back {L : List Sym} {p t : List Int} {q : Nat} {σ : Tb} (h1 : checkE L p = 0) (h2 : placeE L t q = 0) (hS : matchS L p t q = some σ) :
    applyE L p (blN σ 100) = 0 ∧ applyA L p (blN σ 100) = subN L t q ∧ (blN σ 100).length = (varsL p).length := by
  obtain ⟨q', e, hq, h0, hl, hT⟩ := place_zero h2
  obtain rfl : q = q' := by omega
  obtain ⟨p1, p2, p3⟩ := checkE_zero.1 h1
  have pv : ∀ x ∈ p, -99 ≤ x := fun x hx => ((badE_zero.1 p2) x hx).2
  have hE : matchE L p t q = 0 := by simp [matchE, h1, h2]
  have hM : mw L p (subN L t q) noT = some σ := by
    rw [matchS, if_pos hE] at hS; exact hS
  have hev := even_term p3 (sub_need hT hq)
  have hlen : (subN L t q).length ≤ 2000 := by rw [sub_length hT hq]; have := endN_le hT hq; omega
  have hbad : badE L (subN L t q) = 0 := by
    have := (checkE_zero.1 h0).2.1
    rw [badE_zero] at this ⊢
    exact fun x hx => this x (List.mem_of_mem_take (List.mem_of_mem_drop hx))
  obtain ⟨f1, f2⟩ := fits_tab pv hev hbad hlen hM
  have hmade := mw_made hev hM
  obtain ⟨a1, a2⟩ := apply_ok h1 f1 (by rw [hmade]; omega)
  exact ⟨a1, by rw [a2, hmade], bl_count pv f2⟩
end Go.Proofs.Ytbcchplcppogoaa
