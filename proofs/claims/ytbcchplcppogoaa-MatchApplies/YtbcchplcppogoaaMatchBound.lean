/- The walk of the document's Bound; that an instance fits, in plain words. -/
import Derived.Test.YtbcchplcppogoaaMatchTruths
namespace Go.Proofs.Ytbcchplcppogoaa
set_option maxRecDepth 100000
set_option linter.unusedVariables false
open Go.RowKit
attribute [local go_sem ↓] Go.wp_at_zero Go.wp_at_succ
theorem bound_round {bs : List Bd} {v : Int} {i : Nat} (h : boundL bs v = boundL (bs.drop i) v) (hi : i < bs.length) : boundL bs v = if bs[i].1 = v then some bs[i].2 else boundL (bs.drop (i + 1)) v := by
  rw [h, List.drop_eq_getElem_cons hi, bound_cons]
/-- No address: nothing there. -/
def NilOk (ao : Option Addr) (cap : Nat) (u : List Int) : Prop := ao = none → u.length = 0 ∧ cap = 0
set_option maxHeartbeats 2000000 in
theorem bound_any {w : World} {lo : Option Addr} {lcap : Nat} {bs : List Bd} (hl : BindsAt w lo bs) (hm : bs.length ≤ maxLen) (v : Int) :
    Calls Try.prog 25 #[.slice lo bs.length lcap, .int .i64 v] w fun e w' => (∀ u, boundL bs v = some u → ∃ ao cap, e = .returned (.tuple #[.slice ao u.length cap, .bool true]) ∧ IntsAt w ao u ∧ u.length ≤ cap ∧ NilOk ao cap u) ∧ (boundL bs v = none → e = .returned (.tuple #[.slice none 0 0, .bool false])) ∧ w' = w := by
  unfold maxLen at hm
  go_enter Try.func25, Try.ntmps25
  go_wp2
  go_loop [6] (fun iv => ∃ i : Nat, i ≤ bs.length ∧ iv = .int .i64 (i : Int) ∧ Hid (boundL bs v = boundL (bs.drop i) v)) (fun iv => bs.length - (intOf iv).toNat)
  case atStart => exact ⟨0, Nat.zero_le _, rfl, rfl⟩
  case round =>
    obtain ⟨i, hi, rfl, hq⟩ := hrel
    by_cases hlt : i < bs.length
    · obtain ⟨lb, off, ao, cap, rfl, hlb, c1, c2, c3, c4, c5⟩ := hl.get hlt
      have hr := bound_round hq.out hlt
      have i1 : (0 : Int) ≤ (i : Int) := by omega
      have i2 : (i : Int) < (bs.length : Int) := by omega
      by_cases he : bs[i].1 = v
      · rw [if_pos he] at hr
        have HR : Hid (boundL bs v = some bs[i].2) := hr
        have he' : (bs[i].1 == v) = true := by simpa using he
        have HC : Hid (bs[i].2.length ≤ cap ∧ NilOk ao cap bs[i].2) := ⟨c4, c5⟩
        clear hr hq he c4 c5
        go_wp2
        go_ret2
        refine ⟨fun u hu => ?_, fun hn => ?_, rfl⟩
        · rw [HR.out] at hu; cases hu
          exact ⟨ao, cap, rfl, c3, HC.out⟩
        · rw [HR.out] at hn; cases hn
      · rw [if_neg he] at hr
        have he' : (bs[i].1 == v) = false := by simpa using he
        have HR : Hid (boundL bs v = boundL (bs.drop (i + 1)) v) := hr
        clear hr hq c4 c5
        go_wp2
        exact ⟨⟨i + 1, by omega, by go_num, HR⟩, by simp [intOf]; omega⟩
    · have HR : Hid (boundL bs v = none) := by
        have := hq.out
        rw [List.drop_eq_nil_of_le (by omega)] at this
        exact this
      clear hq
      go_wp2
      go_ret2
      refine ⟨fun u hu => ?_, fun _ => rfl, rfl⟩
      rw [HR.out] at hu; cases hu
theorem tab_bound {L : List Sym} {bs : List Bd} {τ σ : Tb} (h : tabF L bs τ = .ok σ) (v : Nat) : (τ v ≠ [] → σ v = τ v ∧ boundL bs (v : Int) = none) ∧ (τ v = [] → (boundL bs (v : Int) = none ∧ σ v = []) ∨ ∃ u, boundL bs (v : Int) = some u ∧ σ v = u ∧ checkE L u = 0 ∧ 1 ≤ v ∧ v ≤ 99) := by
  induction bs generalizing τ with
  | nil =>
    simp [tabF] at h; subst h
    exact ⟨fun _ => ⟨rfl, rfl⟩, fun q => .inl ⟨rfl, q⟩⟩
  | cons b r ih =>
    rw [tabF] at h
    split at h
    · cases h
    · rename_i hc
      split at h
      · cases h
      · rename_i hk
        have hk : checkE L b.2 = 0 := by simpa using hk
        have hne : b.2 ≠ [] := fun e => by
          have := isT_pos (checkE_zero.1 hk).2.2
          rw [e] at this; simp at this
        have hτ : τ b.1.toNat = [] := Classical.byContradiction fun q => hc (.inr (.inr q))
        have hlo : 1 ≤ b.1 := by omega
        have hhi : b.1 ≤ 99 := by omega
        obtain ⟨i1, i2⟩ := ih h
        rw [bound_cons]
        by_cases e : v = b.1.toNat
        · have e' : b.1 = (v : Int) := by omega
          obtain ⟨j1, j2⟩ := i1 (by rw [e, upd_same]; exact hne)
          rw [if_pos e']
          refine ⟨fun q => absurd (by rw [e]; exact hτ) q, fun _ => .inr ⟨b.2, rfl, ?_, hk, by omega, by omega⟩⟩
          rw [j1, e, upd_same]
        · have e' : ¬ b.1 = (v : Int) := by omega
          rw [if_neg e']
          rw [upd_else e] at i1 i2
          exact ⟨i1, i2⟩
theorem tab_no {L : List Sym} {bs : List Bd} {σ : Tb} (h : tabF L bs noT = .ok σ) (v : Nat) : (boundL bs (v : Int) = none ∧ σ v = []) ∨ ∃ u, boundL bs (v : Int) = some u ∧ σ v = u ∧ checkE L u = 0 ∧ 1 ≤ v ∧ v ≤ 99 := (tab_bound h v).2 rfl
theorem need_app {L : List Sym} {σ : Tb} (hg : ∀ v, σ v ≠ [] → IsT L (σ v)) (p : List Int) (k : Nat) : need L k (appT σ p) = need L k p := by
  induction p generalizing k with
  | nil => rfl
  | cons n r ih =>
    rw [app_cons]
    by_cases hn : 0 ≤ n ∨ σ (-n).toNat = []
    · rw [inst, if_pos hn]
      cases k with
      | zero => rfl
      | succ k => simp only [List.cons_append, List.nil_append, need]; exact ih _
    · rw [inst, if_neg hn]
      have hn0 : ¬ 0 ≤ n := fun q => hn (.inl q)
      have hne : σ (-n).toNat ≠ [] := fun q => hn (.inr q)
      have hT := hg _ hne
      rw [need_append]
      cases k with
      | zero =>
        cases hd : σ (-n).toNat with
        | nil => exact absurd hd hne
        | cons x y => simp [need]
      | succ k =>
        have := need_add hT k
        rw [Nat.add_comm 1 k, Nat.zero_add] at this
        rw [this, Option.bind_some, need, arN_neg hn0, Nat.add_zero]
        exact ih k
theorem app_mem {σ : Tb} {p : List Int} {x : Int} (h : x ∈ appT σ p) : x ∈ p ∨ ∃ v, σ v ≠ [] ∧ x ∈ σ v := by
  obtain ⟨n, hn, hx⟩ := List.mem_flatMap.1 h
  unfold inst at hx
  split at hx
  · simp at hx; subst hx; exact .inl hn
  · rename_i q
    exact .inr ⟨(-n).toNat, fun e => q (.inr e), hx⟩
theorem inst_mw {L : List Sym} {σ : Tb} (hg : ∀ v, σ v ≠ [] → IsT L (σ v)) {p : List Int} (hp : ∀ n ∈ p, n < 0 → σ (-n).toNat ≠ []) {τ : Tb} (hτ : ∀ v, τ v = [] ∨ τ v = σ v) : ∃ τ', mw L p (appT σ p) τ = some τ' ∧ ∀ v, τ' v = [] ∨ τ' v = σ v := by
  induction p generalizing τ with
  | nil => exact ⟨τ, rfl, hτ⟩
  | cons n r ih =>
    have hp' : ∀ n ∈ r, n < 0 → σ (-n).toNat ≠ [] := fun m hm => hp m (List.mem_cons_of_mem _ hm)
    rw [app_cons]
    by_cases hn : 0 ≤ n
    · rw [inst, if_pos (.inl hn), List.cons_append, List.nil_append, mw_sym hn, if_pos rfl]
      exact ih hp' hτ
    · have hne := hp n (by simp) (by omega)
      rw [inst, if_neg (by simp [hn, hne])]
      have hh : headT L (σ (-n).toNat ++ appT σ r) = σ (-n).toNat := by
        rw [headT, need_scan (hg _ hne)]; simp
      have hd : (σ (-n).toNat ++ appT σ r).drop (σ (-n).toNat).length = appT σ r := by simp
      by_cases hs : τ (-n).toNat = []
      · rw [mw_new hn hs, hh, hd]
        refine ih hp' (fun v => ?_)
        by_cases e : v = (-n).toNat
        · subst e; rw [upd_same]; exact .inr rfl
        · rw [upd_else e]; exact hτ v
      · rw [mw_old hn hs, hh, hd, if_pos ((hτ _).resolve_left hs)]
        exact ih hp' hτ
/-- What Apply tells may be matched against. -/
theorem inst_check {L : List Sym} {p : List Int} {bs : List Bd} {σ : Tb} (h1 : checkE L p = 0) (h2 : tabF L bs noT = .ok σ) (h3 : ¬ 2000 < (appT σ p).length) : checkE L (appT σ p) = 0 ∧ (∀ v, σ v ≠ [] → IsT L (σ v)) := by
  have hg : ∀ v, σ v ≠ [] → checkE L (σ v) = 0 := fun v hv => by
    rcases tab_no h2 v with ⟨_, q⟩ | ⟨u, _, q, hk, _⟩
    · exact absurd q hv
    · rw [q]; exact hk
  have hT : ∀ v, σ v ≠ [] → IsT L (σ v) := fun v hv => (checkE_zero.1 (hg v hv)).2.2
  obtain ⟨p1, p2, p3⟩ := checkE_zero.1 h1
  refine ⟨checkE_zero.2 ⟨by omega, ?_, ?_⟩, hT⟩
  · rw [badE_zero] at p2 ⊢
    intro x hx
    rcases app_mem hx with q | ⟨v, hv, q⟩
    · exact p2 x q
    · exact badE_zero.1 (checkE_zero.1 (hg v hv)).2.1 x q
  · show need L 1 _ = _
    rw [need_app hT]; exact p3
theorem inst_match {L : List Sym} {p : List Int} {bs : List Bd} {σ : Tb} (h1 : checkE L p = 0) (h2 : tabF L bs noT = .ok σ) (h3 : ¬ 2000 < (appT σ p).length) : matchE L p (appT σ p) 0 = 0 ∧ ((∀ v ∈ varsL p, boundL bs v ≠ none) → ∃ τ, matchS L p (appT σ p) 0 = some τ ∧ (blN τ 100).length = (varsL p).length ∧ ∀ b ∈ blN τ 100, boundL bs b.1 = some b.2 ∧ b.2.length ≤ 2000) := by
  obtain ⟨hc, hT⟩ := inst_check h1 h2 h3
  obtain ⟨p1, p2, p3⟩ := checkE_zero.1 h1
  obtain ⟨q1, q2, q3⟩ := checkE_zero.1 hc
  have hpos := isT_pos q3
  have pv : ∀ x ∈ p, -99 ≤ x := fun x hx => ((badE_zero.1 p2) x hx).2
  have hpl : placeE L (appT σ p) 0 = 0 := by
    unfold placeE
    rw [hc, if_neg (by simp), if_neg (by omega)]
  have hE : matchE L p (appT σ p) 0 = 0 := by simp [matchE, h1, hpl]
  refine ⟨hE, fun hall => ?_⟩
  have hb : ∀ n ∈ p, n < 0 → σ (-n).toNat ≠ [] := fun n hn hn0 => by
    have hv := vs_mem (o := []) hn (isV_iff.2 ⟨pv n hn, by omega⟩)
    have hnn := hall _ hv
    have e : -n = (((-n).toNat : Nat) : Int) := by omega
    rw [e] at hnn
    rcases tab_no h2 (-n).toNat with ⟨q, _⟩ | ⟨u, _, q, hk, _⟩
    · exact absurd q hnn
    · rw [q]
      intro e
      have := isT_pos (checkE_zero.1 hk).2.2
      rw [e] at this; simp at this
  have hsub : subN L (appT σ p) 0 = appT σ p := by
    rw [subN, endN_zero q3]; simp
  obtain ⟨τ, hm, ht⟩ := inst_mw hT hb (τ := noT) (fun v => .inl rfl)
  have hS : matchS L p (appT σ p) 0 = some τ := by
    rw [matchS, if_pos hE]
    show mw L p (subN L (appT σ p) 0) noT = _
    rw [hsub]; exact hm
  obtain ⟨f1, f2⟩ := fits_tab pv (even_term p3 q3) q2 q1 hm
  refine ⟨τ, hS, bl_count pv f2, fun b hb' => ?_⟩
  obtain ⟨v, hv, rfl, hne⟩ := blN_mem hb'
  have e := (ht v).resolve_left hne
  rcases tab_no h2 v with ⟨_, q⟩ | ⟨u, q1', q2', hk, _⟩
  · exact absurd (by rw [e]; exact q) hne
  · refine ⟨by rw [q1', e, q2'], ?_⟩
    simp only; rw [e, q2']; exact (checkE_zero.1 hk).1
end Go.Proofs.Ytbcchplcppogoaa
