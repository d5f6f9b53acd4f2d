import Derived.Test.YtppdopccipngpaaGRule12
import Derived.Deep.RegionLaw
import Derived.Test.YtppdopccipngpaaGRule10
import Derived.Deep.QuietTactic
import Derived.BigQuiet
import Derived.Test.YtppdopccipngpaaGRule05
/- A store in memory, its rules its own; the walk of Add. -/
namespace Go.Proofs.Ytppdopccipngpaa
set_option maxRecDepth 100000
set_option linter.unusedVariables false
open Go.RowKit
attribute [local go_sem ↓] Go.wp_at_zero Go.wp_at_succ
/-- A store: its signature, its rules, each term in a block of its own. -/
structure StAt (w : World) (b bs : Nat) (L : List Sym) (R : List Ru) (lv : Value) (vs : List Value) : Prop where
  blk : w.heap[b]? = some (.cells #[.pointer (some ⟨bs, 0, none⟩), lv] 69 (0, 0))
  sig : Sg w.heap.size w bs L
  row : w.ownsRow 0 39 2 lv R.length vs
  own : OCells w vs R
  le : R.length ≤ 100
  ok : ∀ x ∈ R, checkE L x.1 = 0 ∧ checkE L x.2 = 0
theorem ok_len {L : List Sym} {x : Ru} (h : checkE L x.1 = 0 ∧ checkE L x.2 = 0) : (0 < x.1.length ∧ x.1.length ≤ 2000) ∧ 0 < x.2.length ∧ x.2.length ≤ 2000 := by
  obtain ⟨a1, _, a2⟩ := checkE_zero.1 h.1
  obtain ⟨b1, _, b2⟩ := checkE_zero.1 h.2
  exact ⟨⟨isT_pos a2, a1⟩, isT_pos b2, b1⟩
theorem StAt.rc {w : World} {b bs : Nat} {L : List Sym} {R : List Ru} {lv : Value} {vs : List Value} (h : StAt w b bs L R lv vs) : RCells w vs R :=
  h.own.rcells (fun x hx => ⟨(ok_len (h.ok x hx)).1.2, (ok_len (h.ok x hx)).2.2⟩)
theorem StAt.read {w : World} {b bs : Nat} {L : List Sym} {R : List Ru} {lv : Value} {vs : List Value} (h : StAt w b bs L R lv vs) : ∃ ro rc, lv = .slice ro R.length rc ∧ StR w b bs ro rc L R := by
  obtain ⟨ao, cap, rfl, h1, h2, _⟩ := row_rules h.row h.rc
  exact ⟨ao, cap, rfl, h.blk, h.sig, h1, h2, h.le, fun x hx => (h.ok x hx).1⟩
/-- The blocks that a store writes: its own, and that of its rules' row. -/
def StoB (w : World) (b : Nat) (lv : Value) (k : Nat) : Prop := k = b ∨ lv.ownBlock = some k
/-- A block of a store or of rules. -/
def IsSt (w : World) (k : Nat) : Prop := (∃ c, w.heap[k]? = some (.cells c 69 (0, 0))) ∨ ∃ c, w.heap[k]? = some (.cells c 39 (0, 0))
theorem own_blk {w : World} {base : Nat} {e : TypeId} {size n : Nat} {v : Value} {xs : List Value} (h : w.ownsRow base e size v n xs) {k : Nat} (hk : v.ownBlock = some k) : ∃ c, w.heap[k]? = some (.cells c e (0, 0)) := by
  rcases h.2 with ⟨rfl, _⟩ | ⟨g, cap, cur, rfl, _, hg, _⟩
  · cases hk
  · simp [Value.ownBlock] at hk; subst hk; exact ⟨cur, hg⟩
theorem StAt.isSt {w : World} {b bs : Nat} {L : List Sym} {R : List Ru} {lv : Value} {vs : List Value} (h : StAt w b bs L R lv vs) : ∀ k, StoB w b lv k → IsSt w k := by
  rintro k (rfl | e)
  · exact .inl ⟨_, h.blk⟩
  · exact .inr (own_blk h.row e)
theorem IsSt.no_int {w : World} {k : Nat} (h : IsSt w k) : ∀ cur, w.heap[k]? ≠ some (.cells cur 3 (0, 0)) := by
  intro cur e
  rcases h with ⟨c, h⟩ | ⟨c, h⟩ <;> (rw [h] at e; cases e)
theorem IsSt.no_sig {w : World} {k b : Nat} {L : List Sym} {sv : Value} {mr : Option Nat} (h : IsSt w k) (hs : SigAt w b L sv mr) : ¬ Foot b sv mr k := by
  rintro (e | e | e)
  · subst e
    have := hs.blk
    rcases h with ⟨c, h⟩ | ⟨c, h⟩ <;> (rw [h] at this; cases this)
  · obtain ⟨c', this⟩ := own_blk hs.row e
    rcases h with ⟨c, h⟩ | ⟨c, h⟩ <;> (rw [h] at this; cases this)
  · subst e
    obtain ⟨n, D, hm, _⟩ := hs.map
    obtain ⟨es, clock, this, _⟩ := hm
    rcases h with ⟨c, h⟩ | ⟨c, h⟩ <;> (rw [h] at this; cases this)
theorem Sg.kept_ty {n b : Nat} {w w' : World} {L : List Sym} {S : Nat → Prop} (h : Sg n w b L) (hk : Kept S w w') (hS : ∀ k, S k → IsSt w k) : Sg n w' b L := by
  obtain ⟨⟨sv, mr, h1, h2⟩, h3⟩ := h
  exact ⟨⟨sv, mr, h1.kept hk (fun k e s => (hS k s).no_sig h1 e), h2⟩, h3⟩
theorem Same0.mono' {S : Nat → Prop} {w w' : World} (h : Same0 w w') : Kept S w w' := h.mono (fun _ _ f => f.elim)
theorem StAt.same {w w' : World} {b bs : Nat} {L : List Sym} {R : List Ru} {lv : Value} {vs : List Value} (h : StAt w b bs L R lv vs) (hk : Same0 w w') : StAt w' b bs L R lv vs :=
  ⟨hk.at0 h.blk, sg_up (h.sig.same hk) hk.size, hk.row h.row (fun _ _ f => f), h.own.same hk, h.le, h.ok⟩
/-- A call, at a step of a region that draws its order, by its contract. -/
theorem step_callx {ops : Array Oper} {o : Oper} {a : Act} {w : World} {K : Act → World → Prop} {Q : Exit → Act → World → Prop} {E : Prop} {f : FuncId} {args : Array Value} {R : Ending → World → Prop} (hgd : o.guard = none)
    (c : Calls Try.prog f args w R) (hrun : (execOp a.eval o).run Try.prog w = .ok (.enter f args) w) (hR : ∀ e w', R e w' → ∃ v, e = .returned v ∧ (K (a.put o.dst v) w')) :
    if Region.wanted o (yielded ops a.tmps) = true then Oper.wp Try.prog o a w K Q else E := by
  have hw : Region.wanted o (yielded ops a.tmps) = true := by simp [Region.wanted, hgd]
  rw [if_pos hw]
  unfold Oper.wp
  rw [hrun, Oper.upon_enter]
  refine c.mono fun e w' h => ?_
  obtain ⟨v, rfl, h2⟩ := hR e w' h
  exact h2
/-- append of rules: where they lie then. -/
theorem run_rules {w0 : World} (ty : TypeId) {base N : Nat} {vs : List Value} {v : Value} (hr : w0.ownsRow base 39 2 v N vs) {ad : Addr} {m c : Nat} {us : List Value} (hl : us.length = m * 2) (hu : ∀ j u, us[j]? = some u → w0.cell? (ad.add j) = some u) (h1 : ∀ u ∈ us, u.oneCell' = true) (hb : base ≤ w0.heap.size) (hsz : N + m ≤ 1000) :
    ∃ v' w', (Builtin.append_ #[24, 24] ty #[v, .slice (some ad) m c]).run Try.prog w0 = .ok v' w' ∧ w'.ownsRow base 39 2 v' (N + m) (vs ++ us) ∧ Kept (fun k => v.ownBlock = some k) w0 w' ∧ ∀ k, v'.ownBlock = some k → v.ownBlock = some k ∨ w0.heap.size ≤ k := by
  obtain ⟨i, hi, hz0, hz1, hz2⟩ := info_parts info_rule
  by_cases hm : 0 < m
  · obtain ⟨g, cap, w', q1, q2, q3, q4, _⟩ := run_append_lies (P := Try.prog) w0 24 ty base 39 i _ 2 48 Try.underlying24 hi hz0 hz1 hz2 rfl (by decide) v N vs hr ad m c us hl hu h1 hm (by unfold maxLen; omega) (by omega) hb w0.heap.size rfl
    refine ⟨_, w', q1, q2, Kept.grown (Kept.refl _ w0) q3 (fun _ e _ => e), fun k e => ?_⟩
    simp [Value.ownBlock] at e
    subst e
    exact q4.imp id (fun e => by omega)
  · obtain rfl : m = 0 := by omega
    obtain ⟨v', w', q1, q2, q3, q4⟩ := run_append_own (P := Try.prog) w0 base 24 ty 39 i _ 2 48 Try.underlying24 hi hz0 hz1 hz2 rfl (by decide) v N vs hr ad 0 c us hl hu h1 (by unfold maxLen; omega) (by omega) hb
    refine ⟨v', w', q1, q2, Kept.grown (Kept.refl _ w0) q3 (fun _ e _ => e), fun k e => .inl ?_⟩
    rcases hr.2 with ⟨rfl, h0⟩ | ⟨g, cap, cur, rfl, _, hg, g1, g2, g3, g4⟩
    · rw [q4.2 ⟨rfl, rfl⟩] at e; cases e
    · have e0 : us = [] := List.eq_nil_of_length_eq_zero (by omega)
      subst e0
      have := run_append_room (P := Try.prog) w0 24 ty 39 i Try.underlying24 hi g N cap cur hg ad 0 c [] (by simp) (by simp) (by simp) (by omega) (by rw [hz1, g3]; simp; omega)
      rw [q1] at this
      simp only [Result.ok.injEq] at this
      rw [this.1] at e
      exact e
/-- append of rules, at such a step. -/
theorem step_rules {w0 : World} {ops : Array Oper} {o : Oper} {a : Act} {K : Act → World → Prop} {Q : Exit → Act → World → Prop} {E : Prop} (hgd : o.guard = none) (s x : Operand)
    (ho : o.op = .call { callee := .builtin .append, args := #[s, x], argTypes := #[24, 24] })
    (base N : Nat) (vs : List Value) (v : Value) (hs : a.eval s = v) (hr : w0.ownsRow base 39 2 v N vs) (ad : Addr) (m c : Nat) (us : List Value) (hx : a.eval x = .slice (some ad) m c) (hl : us.length = m * 2) (hu : ∀ j u, us[j]? = some u → w0.cell? (ad.add j) = some u) (h1 : ∀ u ∈ us, u.oneCell' = true) (hb : base ≤ w0.heap.size) (hsz : N + m ≤ 1000)
    (h : ∀ v' w', w'.ownsRow base 39 2 v' (N + m) (vs ++ us) → Kept (fun k => v.ownBlock = some k) w0 w' → (∀ k, v'.ownBlock = some k → v.ownBlock = some k ∨ w0.heap.size ≤ k) → K (a.put o.dst v') w') :
    if Region.wanted o (yielded ops a.tmps) = true then Oper.wp Try.prog o a w0 K Q else E := by
  have hw : Region.wanted o (yielded ops a.tmps) = true := by simp [Region.wanted, hgd]
  rw [if_pos hw]
  obtain ⟨v', w', hr1, hr2, hr3, hr4⟩ := run_rules (c := c) o.type hr hl hu h1 hb hsz
  exact Lib.wp_append_run w0 s x 24 24 ho _ _ hs hx v' w' hr1 (h v' w' hr2 hr3 hr4)
theorem err_nil (w : World) : (binOp .neq 28 .nilIface .nilIface).run Try.prog w = .ok (.bool false) w := by kernel_rfl
theorem err_flt (v : Value) (w : World) : (binOp .neq 28 (.iface 78 v) .nilIface).run Try.prog w = .ok (.bool true) w := by kernel_rfl
/-- What is told is nothing, or a Fault. -/
theorem Ans.flt {L : List Sym} {R l : List Ru} {ws : List (Int × Int)} {w : World} {v : Value} (h : Ans L R l ws) (hf : FltAt w ws v) : (ws = [] ∧ v = .nilIface) ∨ (ws ≠ [] ∧ ∃ k, v = .iface 78 (.pointer (some ⟨k, 0, none⟩))) := by
  rcases h with ⟨rfl, _⟩ | ⟨j, n, _, _, _, _, rfl⟩
  · exact .inl ⟨rfl, hf⟩
  · refine .inr ⟨wrongL_ne _ _ _ _ _, ?_⟩
    unfold wrongL at hf
    have key : ∀ {c : Int} {r : List (Int × Int)}, FltAt w ((c, (n : Int)) :: r) v → ∃ k, v = .iface 78 (.pointer (some ⟨k, 0, none⟩)) := by
      intro c r h
      rcases h with ⟨e, _⟩ | ⟨_, k, u, e, _⟩
      · omega
      · exact ⟨k, e⟩
    split at hf
    · exact key hf
    · split at hf
      · exact key hf
      · exact key hf
/-- What Add answers, and what it has done. -/
def AddPost (L : List Sym) (R l : List Ru) (b bs : Nat) (lv : Value) (w : World) (e : Ending) (w' : World) : Prop :=
  ∃ ws v, e = .returned v ∧ Ans L R l ws ∧ FltAt w' ws v ∧ ws.length ≤ 2 ∧ (ws ≠ [] → Same0 w w') ∧ (ws = [] → ∃ lv' vs', StAt w' b bs L (R ++ l) lv' vs' ∧ Kept (StoB w b lv) w w' ∧ ∀ k, lv'.ownBlock = some k → lv.ownBlock = some k ∨ w.heap.size ≤ k)
theorem Ans.fit {L : List Sym} {R l : List Ru} (h : Ans L R l []) (hR : R.length ≤ 100) : R.length + l.length ≤ 100 ∧ ∀ x ∈ l, checkE L x.1 = 0 ∧ checkE L x.2 = 0 := by
  refine ⟨?_, fun x hx => ?_⟩
  · by_cases h0 : l.length = 0
    · omega
    · have := h.nil 0 (by omega) 0 (by omega)
      simpa [ckB, askB] using this
  · obtain ⟨i, hi, rfl⟩ := List.mem_iff_getElem.1 hx
    have := h.nil 1 (by omega) i hi
    simp only [ckB, askB, Bool.and_eq_true, decide_eq_true_eq] at this
    simpa [List.getD, hi] using this
set_option maxHeartbeats 8000000 in
theorem add_rules {w : World} {b bs : Nat} {L : List Sym} {R : List Ru} {lv : Value} {vs : List Value} {lo : Option Addr} {l : List Ru} {lc : Nat} (h : StAt w b bs L R lv vs) (hl : RsAt w lo l) (hll : l.length ≤ 140737488355328) (hlc : l.length ≤ lc) :
    Calls Try.prog 9 #[.pointer (some ⟨b, 0, none⟩), .slice lo l.length lc] w (AddPost L R l b bs lv w) := by
  obtain ⟨ro, rc, rfl, hR⟩ := h.read
  have C := checkR_any hR hl hll hlc
  have hn := err_nil
  have hf := err_flt
  unfold ChkPost at C
  go_enter Try.func9, Try.ntmps9
  go_upto_region 2 with (first | (go_at_call 14; refine C.mono ?_; rintro e w1 ⟨ws, v, rfl, hA, hv, hws, hk1⟩))
  rcases hA.flt hv with ⟨rfl, rfl⟩ | ⟨hne, k, rfl⟩
  · have A0 : Hid (Ans L R l []) := hA
    obtain ⟨hsz, hok⟩ := hA.fit h.le
    have h1 := h.same hk1
    have hl1 := hl.same hk1
    have CC : Hid (∀ ww, Same0 w1 ww → Calls Try.prog 23 #[.slice lo l.length lc] ww fun e w' => ∃ us, e = .returned (.slice (some ⟨ww.heap.size, 0, none⟩) l.length l.length) ∧ w'.ownsRow ww.heap.size 39 2 (.slice (some ⟨ww.heap.size, 0, none⟩) l.length l.length) l.length us ∧ OCells w' us l ∧ Same0 w1 w') := fun ww hk => (copies_any (hl1.same hk) (by omega) (fun x hx => ok_len (hok x hx))).mono (fun e w' ⟨us, q1, q2, q3, q4⟩ => ⟨us, q1, q2, q3, hk.trans' q4⟩)
    have HB : Hid (∀ ww, Same0 w1 ww → ww.cell? ⟨b, 1, none⟩ = some (.slice ro R.length rc) ∧ ww.ownsRow 0 39 2 (.slice ro R.length rc) R.length vs) := fun ww hk => ⟨cellAt (h1.same hk).blk 1, (h1.same hk).row⟩
    have HU : Hid (∀ w2 g us, w2.ownsRow g 39 2 (.slice (some ⟨g, 0, none⟩) l.length l.length) l.length us → OCells w2 us l → us.length = l.length * 2 ∧ (∀ j u, us[j]? = some u → w2.cell? ((⟨g, 0, none⟩ : Addr).add j) = some u) ∧ ∀ u ∈ us, u.oneCell' = true) := fun w2 g us r o => ⟨o.1, r.cells rfl, (o.rcells (fun x hx => ⟨(ok_len (hok x hx)).1.2, (ok_len (hok x hx)).2.2⟩)).one⟩
    have HC7 : Hid (∀ w2 w7, Same0 w1 w2 → Kept (fun k => (Value.slice ro R.length rc).ownBlock = some k) w2 w7 → w7.cell? ⟨b, 1, none⟩ = some (.slice ro R.length rc) ∧ w7.frozen? ⟨b, 1, none⟩ = false) := fun w2 w7 k1 k2 => by
      have h2 := h1.same k1
      have b7 := k2.at h2.blk (fun e => by
        obtain ⟨c, hc⟩ := own_blk h2.row e
        rw [h2.blk] at hc; cases hc)
      exact ⟨cellAt b7 1, frozenAt b7 1⟩
    have FIN : Hid (∀ w2 w7 us vo vc, Same0 w1 w2 → OCells w2 us l → w7.ownsRow 0 39 2 (.slice vo (R.length + l.length) vc) (R.length + l.length) (vs ++ us) → Kept (fun k => (Value.slice ro R.length rc).ownBlock = some k) w2 w7 → (∀ k, (Value.slice vo (R.length + l.length) vc).ownBlock = some k → (Value.slice ro R.length rc).ownBlock = some k ∨ w2.heap.size ≤ k) → ∃ lv' vs', StAt (w7.setCell ⟨b, 1, none⟩ (.slice vo (R.length + l.length) vc)) b bs L (R ++ l) lv' vs' ∧ Kept (StoB w b (.slice ro R.length rc)) w (w7.setCell ⟨b, 1, none⟩ (.slice vo (R.length + l.length) vc)) ∧ ∀ k, lv'.ownBlock = some k → (Value.slice ro R.length rc).ownBlock = some k ∨ w.heap.size ≤ k) := by
      intro w2 w7 us vo vc k1 o2 r7 k7 hat
      have h2 := h1.same k1
      have k0 : Same0 w w2 := hk1.trans' k1
      have ks : Kept (StoB w b (.slice ro R.length rc)) w2 (w7.setCell ⟨b, 1, none⟩ (.slice vo (R.length + l.length) vc)) := Kept.setCell (p := ⟨b, 1, none⟩) (k7.mono (S' := StoB w b (.slice ro R.length rc)) (fun _ _ e => .inr e)) (fun _ => .inl rfl) _
      have b7 : w7.heap[b]? = some (.cells #[.pointer (some ⟨bs, 0, none⟩), .slice ro R.length rc] 69 (0, 0)) := k7.at h2.blk (fun e => by
        obtain ⟨c, hc⟩ := own_blk h2.row e
        rw [h2.blk] at hc; cases hc)
      have ty := fun k e => (h2.isSt k e).no_int
      have hok2 : ∀ x ∈ R ++ l, checkE L x.1 = 0 ∧ checkE L x.2 = 0 := fun x hx => by
        rcases List.mem_append.1 hx with q | q
        · exact h.ok x q
        · exact hok x q
      refine ⟨.slice vo (R.length + l.length) vc, vs ++ us, ⟨setAt b7 1 _, sg_up (h2.sig.kept_ty ks h2.isSt) ks.size, ?_, (h2.own.kept ks ty).append (o2.kept ks ty), by simp; omega, hok2⟩, Kept.trans k0.mono' ks (fun _ _ e => e), fun k e => (hat k e).imp id (fun q => by have := k0.size; omega)⟩
      rw [List.length_append]
      have kb : Kept (fun k => k = b) w7 (w7.setCell ⟨b, 1, none⟩ (.slice vo (R.length + l.length) vc)) := Kept.setCell (p := ⟨b, 1, none⟩) (Kept.refl (fun k => k = b) w7) (fun _ => rfl) _
      exact kb.row r7 (fun k e q => by
        subst q
        obtain ⟨c, hc⟩ := own_blk r7 e
        rw [b7] at hc; cases hc)
    clear hA hv C h hl hR h1 hl1 hok
    obtain ⟨c1, _⟩ := HB.out w1 (Kept.refl _ _)
    go_wp2
    go_region_law (first
      | (refine step_rules (by rfl) _ _ (by rfl) 0 R.length vs (.slice ro R.length rc) (by rfl) r2 ⟨_, 0, none⟩ l.length l.length us (by rfl) u1 u2 u3 (Nat.zero_le _) (by omega) ?_; intro v7 w7 r7 k7 hat7; obtain ⟨vo, vc, rfl⟩ := row_shape r7; obtain ⟨c7, f7⟩ := HC7.out w2 w7 k2 k7)
      | (refine step_callx rfl (CC.out _ (Kept.drew (Kept.refl _ _))) (by simp [go_sem]) ?_; rintro e w2 ⟨us, rfl, rr2, o2, k2⟩; refine ⟨_, rfl, ?_⟩; obtain ⟨c2, r2⟩ := HB.out w2 k2; obtain ⟨u1, u2, u3⟩ := HU.out _ _ _ rr2 o2))
    all_goals
      have FF : Hid (∃ lv' vs', StAt (w7.setCell ⟨b, 1, none⟩ (.slice vo (R.length + l.length) vc)) b bs L (R ++ l) lv' vs' ∧ Kept (StoB w b (.slice ro R.length rc)) w (w7.setCell ⟨b, 1, none⟩ (.slice vo (R.length + l.length) vc)) ∧ ∀ k, lv'.ownBlock = some k → (Value.slice ro R.length rc).ownBlock = some k ∨ w.heap.size ≤ k) := FIN.out w2 w7 us vo vc k2 o2 r7 k7 hat7
      clear c1 c2 r2 u1 u2 u3 rr2 o2 r7 k7 c7 f7 hat7
      go_wp2
      go_ret
      exact ⟨[], _, rfl, A0.out, rfl, by simp, fun q => absurd rfl q, fun _ => FF.out⟩
  · have A0 : Hid (Ans L R l ws) := hA
    clear C hA
    go_wp2
    go_ret
    exact ⟨ws, _, rfl, A0.out, hv, hws, fun _ => hk1, fun e => absurd e hne⟩
end Go.Proofs.Ytppdopccipngpaa
/- The walk of the laws' Same at errors one within the other. -/
namespace Go.Proofs.Ytppdopccipngpaa
open Go.RowKit
set_option linter.unusedVariables false
set_option maxRecDepth 100000
theorem sm_fault (W : World) (v : Value) : (Instr.typeAssert (.iface 78 v) 28 78 true).run Try.prog W = .ok (.tuple #[v, .bool true]) W := by kernel_rfl
theorem sm_errno (W : World) (v : Value) : (Instr.typeAssert (.iface 40 v) 28 40 true).run Try.prog W = .ok (.tuple #[v, .bool true]) W := by kernel_rfl
theorem sm_nil (W : World) : (binOp .eql 28 .nilIface .nilIface).run Try.prog W = .ok (.bool true) W := by kernel_rfl
/-- What the document says of an error, in memory. -/
def WrsAt (w : World) (lv : Value) (ws : List (Int × Int)) : Prop :=
  ∃ lo lc, lv = .slice lo ws.length lc ∧ (ws = [] ∨ ∃ b, lo = some ⟨b, 0, none⟩ ∧ b < w.heap.size ∧ ∀ i (h : i < ws.length), w.cell? ⟨b, i * 2, none⟩ = some (.int .i64 ws[i].1) ∧ w.cell? ⟨b, i * 2 + 1, none⟩ = some (.int .i64 ws[i].2))
theorem WrsAt.same {w w' : World} {lv : Value} {ws : List (Int × Int)} (h : WrsAt w lv ws) (hk : Same0 w w') : WrsAt w' lv ws := by
  obtain ⟨lo, lc, e, h⟩ := h
  refine ⟨lo, lc, e, h.imp id ?_⟩
  rintro ⟨b, e, hb, hc⟩
  exact ⟨b, e, Nat.lt_of_lt_of_le hb hk.size, fun i hi => ⟨(hk.cell (p := ⟨b, i * 2, none⟩) hb (fun f => f)).trans (hc i hi).1, (hk.cell (p := ⟨b, i * 2 + 1, none⟩) hb (fun f => f)).trans (hc i hi).2⟩⟩
set_option maxHeartbeats 8000000 in
theorem same_flt {w : World} {er lv : Value} {ws : List (Int × Int)} (h : FltAt w ws er) (hl : WrsAt w lv ws) (hn : ws.length ≤ 2) :
    Calls Try.prog 16 #[er, lv] w fun e w' => e = .returned (.bool true) ∧ Same0 w w' := by
  obtain ⟨lo, lc, rfl, hl⟩ := hl
  go_enter Try.func16, Try.ntmps16
  go_wp2
  go_loopw [0, 5] (fun er i wr => ∃ m k : Nat, k ≤ ws.length ∧ wr = w.drewN m ∧ i = .int .i64 (k : Int) ∧ Hid (FltAt w (ws.drop k) er)) (fun _ i _ => ws.length - (intOf i).toNat)
  case atStart => exact ⟨0, 0, Nat.zero_le _, rfl, rfl, h⟩
  case round =>
    clear h
    obtain ⟨m, k, hk, rfl, rfl, hf⟩ := hrel
    by_cases hlt : k < ws.length
    · obtain ⟨b, rfl, _, hc⟩ : ∃ b, lo = some ⟨b, 0, none⟩ ∧ b < w.heap.size ∧ ∀ i (h : i < ws.length), w.cell? ⟨b, i * 2, none⟩ = some (.int .i64 ws[i].1) ∧ w.cell? ⟨b, i * 2 + 1, none⟩ = some (.int .i64 ws[i].2) := by
        rcases hl with e | e
        · rw [e] at hlt; simp at hlt
        · exact e
      obtain ⟨g0, g1⟩ := hc k hlt
      have i1 : (0 : Int) ≤ (k : Int) := by omega
      have i2 : (k : Int) < (ws.length : Int) := by omega
      have hf' := hf.out
      rw [List.drop_eq_getElem_cons hlt] at hf'
      obtain ⟨c, p, hcp⟩ : ∃ c p, ws[k] = (c, p) := ⟨_, _, rfl⟩
      rw [hcp] at hf' g0 g1
      simp only at g0 g1
      rcases hf' with ⟨rfl, hnil, rfl⟩ | ⟨hp, d, u, rfl, hd, hu⟩
      · have hlast : (k : Int) = (ws.length : Int) - 1 := by
          have := congrArg List.length hnil
          simp at this
          omega
        have hlast' : ((k : Int) == (ws.length : Int) - 1) = true := by simpa using hlast
        have hta := fun v => sm_errno (w.drewN m) v
        clear hc hf hnil hlast hl hcp
        go_wp2
        go_ret
        exact ⟨by first | rfl | simp, (Kept.refl _ w).drewN m⟩
      · have b0 : w.cell? ⟨d, 0, none⟩ = some (.int .i64 c) := cellAt hd 0
        have b1 : w.cell? ⟨d, 1, none⟩ = some (.int .i64 p) := cellAt hd 1
        have b2 : w.cell? ⟨d, 2, none⟩ = some u := cellAt hd 2
        have hp1 : (p == -1) = false := by simpa using hp
        have hta := fun v => sm_fault (w.drewN m) v
        have HU : Hid (FltAt w (ws.drop (k + 1)) u) := hu
        clear hc hf hd hu hp hl hcp
        go_wp2
        clear hta hp1
        go_quiet (fail)
        go_wp2
        exact ⟨⟨m + nq, k + 1, by omega, rfl, by go_num, HU⟩, by simp [intOf]; omega⟩
    · have hf' := hf.out
      rw [List.drop_of_length_le (by omega)] at hf'
      obtain rfl : _ = Value.nilIface := hf'
      have hnn := sm_nil (w.drewN m)
      go_wp2
      go_ret
      exact ⟨rfl, (Kept.refl _ w).drewN m⟩
end Go.Proofs.Ytppdopccipngpaa
/- The walks of New and Len, and of the head of layer 7's statements. -/
namespace Go.Proofs.Ytppdopccipngpaa
set_option maxRecDepth 100000
set_option linter.unusedVariables false
open Go.RowKit
attribute [local go_sem ↓] Go.wp_at_zero Go.wp_at_succ
theorem snew_any {w : World} {bs : Nat} {L : List Sym} (h : Sg w.heap.size w bs L) : Calls Try.prog 20 #[.pointer (some ⟨bs, 0, none⟩)] w fun e w' => e = .returned (.pointer (some ⟨w.heap.size, 0, none⟩)) ∧ StAt w' w.heap.size bs L [] (.slice none 0 0) [] ∧ Same0 w w' := by
  have K : Same0 w (w.alloc (.cells #[.pointer (some ⟨bs, 0, none⟩), .slice none 0 0] 69)) := (Kept.refl _ w).alloc _
  have H : Hid (StAt (w.alloc (.cells #[.pointer (some ⟨bs, 0, none⟩), .slice none 0 0] 69)) w.heap.size bs L [] (.slice none 0 0) []) := ⟨heap_alloc_new _ _, sg_up (h.same K) K.size, World.ownsRow_nil _ _ _ _, ⟨rfl, fun i hi => absurd hi (by simp)⟩, by simp, fun x hx => by simp at hx⟩
  clear h
  go_enter Try.func20, Try.ntmps20
  go_wp2
  go_ret
  exact ⟨rfl, H.out, K⟩
theorem slen_any {w : World} {b bs : Nat} {L : List Sym} {R : List Ru} {lv : Value} {vs : List Value} (h : StAt w b bs L R lv vs) : Calls Try.prog 10 #[.pointer (some ⟨b, 0, none⟩)] w fun e w' => e = .returned (.int .i64 (R.length : Int)) ∧ w' = w := by
  obtain ⟨ro, rc, rfl, hR⟩ := h.read
  obtain ⟨c0, c1⟩ := hR.cells
  clear h hR
  go_enter Try.func10, Try.ntmps10
  go_wp2
  go_ret
  exact ⟨rfl, rfl⟩
/-! ### the symbols and rules of the head -/
abbrev fS : Sym := ⟨⟨#[102]⟩, 1, true⟩
abbrev L4 : List Sym := [zS, aS, aAdd, fS]
theorem nm_f : nameB ⟨#[102]⟩ = true := by decide +kernel
theorem madeL_aw7 : madeL L4 = L4 := by
  simp [madeL, addL, addErr, nm_z, nm_s, nm_add, nm_f, findI]
abbrev ruA : List Ru := [([2, 0, -1], [-1]), ([2, 1, -1, -2], [1, 2, -1, -2])]
abbrev ruB : List Ru := [([3, 0], [0]), ([2, -1, 0], [-1])]
abbrev ruC : List Ru := [([3, 0], [-1]), ([2, -1, -1], [-1])]
theorem aw7_a : Ans L4 [] ruA [] := Ans.of_all (by decide +kernel)
theorem aw7_b : Ans L4 ruA ruB [(77, 1), (78, 0)] := .inr ⟨7, 1, by omega, by decide, ⟨by decide +kernel, by decide +kernel⟩, by decide +kernel, by decide +kernel⟩
theorem aw7_c : Ans L4 ruA ruC [(74, 1)] := .inr ⟨4, 1, by omega, by decide, ⟨by decide +kernel, by decide +kernel⟩, by decide +kernel, by decide +kernel⟩
theorem ints_arg (w : World) (xs : List Int) (T : TypeId) (hx : xs.length ≤ 2000) {o : Obj} (ho : o = .cells (iv xs).toArray T (0, 0)) : Arg (w.alloc o) (some ⟨w.heap.size, 0, none⟩) xs xs.length :=
  ⟨ints_new w xs T ho, Nat.le_refl _, (fun e => by cases e), by omega⟩
/-- Two rules that a call lays. -/
theorem rs_two (w : World) (x1 x2 y1 y2 : List Int) (T1 T2 T3 T4 T5 : TypeId) (b1 : x1.length ≤ 2000) (b2 : x2.length ≤ 2000) (b3 : y1.length ≤ 2000) (b4 : y2.length ≤ 2000) {o1 o2 o3 o4 o5 : Obj} (h1 : o1 = .cells (iv x1).toArray T1 (0, 0)) (h2 : o2 = .cells (iv x2).toArray T2 (0, 0)) (h3 : o3 = .cells (iv y1).toArray T3 (0, 0)) (h4 : o4 = .cells (iv y2).toArray T4 (0, 0))
    (h5 : o5 = .cells #[.slice (some ⟨w.heap.size, 0, none⟩) x1.length x1.length, .slice (some ⟨w.heap.size + 1, 0, none⟩) x2.length x2.length, .slice (some ⟨w.heap.size + 1 + 1, 0, none⟩) y1.length y1.length, .slice (some ⟨w.heap.size + 1 + 1 + 1, 0, none⟩) y2.length y2.length] T5 (0, 0)) :
    RsAt (((((w.alloc o1).alloc o2).alloc o3).alloc o4).alloc o5) (some ⟨w.heap.size + 1 + 1 + 1 + 1, 0, none⟩) [(x1, x2), (y1, y2)] ∧ Same0 w (((((w.alloc o1).alloc o2).alloc o3).alloc o4).alloc o5) := by
  have k1 : Same0 w (w.alloc o1) := (Kept.refl _ w).alloc _
  have k2 : Same0 (w.alloc o1) ((w.alloc o1).alloc o2) := (Kept.refl _ _).alloc _
  have k3 : Same0 ((w.alloc o1).alloc o2) (((w.alloc o1).alloc o2).alloc o3) := (Kept.refl _ _).alloc _
  have k4 : Same0 (((w.alloc o1).alloc o2).alloc o3) ((((w.alloc o1).alloc o2).alloc o3).alloc o4) := (Kept.refl _ _).alloc _
  have k5 : Same0 ((((w.alloc o1).alloc o2).alloc o3).alloc o4) (((((w.alloc o1).alloc o2).alloc o3).alloc o4).alloc o5) := (Kept.refl _ _).alloc _
  have a1 := ((((ints_arg w x1 T1 b1 h1).same k2).same k3).same k4).same k5
  have a2 := (((ints_arg (w.alloc o1) x2 T2 b2 h2).same k3).same k4).same k5
  have a3 := ((ints_arg ((w.alloc o1).alloc o2) y1 T3 b3 h3).same k4).same k5
  have a4 := (ints_arg (((w.alloc o1).alloc o2).alloc o3) y2 T4 b4 h4).same k5
  have hb := heap_alloc_new ((((w.alloc o1).alloc o2).alloc o3).alloc o4) o5
  simp only [World.size_alloc] at a2 a3 a4 hb
  rw [h5] at hb
  refine ⟨.inr ⟨_, 0, rfl, by simp, fun i hi => ?_⟩, (((k1.trans' k2).trans' k3).trans' k4).trans' k5⟩
  rw [h5] at *
  have hi' : i < 2 := by simpa using hi
  match i, hi' with
  | 0, _ => exact ⟨_, _, _, _, cellAt hb 0, cellAt hb 1, a1, a2⟩
  | 1, _ => exact ⟨_, _, _, _, cellAt hb 2, cellAt hb 3, a3, a4⟩
theorem syms_aw7 (w : World) (T : TypeId) : SymsAt (w.alloc (.cells #[.string ⟨#[122]⟩, .int .i64 0, .bool false, .string ⟨#[115]⟩, .int .i64 1, .bool false, .string ⟨#[97, 100, 100]⟩, .int .i64 2, .bool true, .string ⟨#[102]⟩, .int .i64 1, .bool true] T)) (some ⟨w.heap.size, 0, none⟩) 4 L4 := by
  refine ⟨rfl, .inr ⟨_, _, rfl, by simp, fun i hi => ?_⟩, ?_⟩
  · have hi' : i < 4 := by simpa using hi
    rw [cellAt (heap_alloc_new w _), cellAt (heap_alloc_new w _), cellAt (heap_alloc_new w _)]
    match i, hi' with
    | 0, _ => exact ⟨rfl, rfl, rfl⟩
    | 1, _ => exact ⟨rfl, rfl, rfl⟩
    | 2, _ => exact ⟨rfl, rfl, rfl⟩
    | 3, _ => exact ⟨rfl, rfl, rfl⟩
  · intro x hx
    simp at hx
    rcases hx with rfl | rfl | rfl | rfl <;> exact ⟨by decide +kernel, by decide +kernel⟩
theorem plain7_any (w : World) : Calls Try.prog 22 #[] w fun e w' => ∃ g, e = .returned (.slice (some ⟨g, 0, none⟩) 4 4) ∧ SymsAt w' (some ⟨g, 0, none⟩) 4 L4 ∧ Same0 w w' := by
  go_enter Try.func22, Try.ntmps22
  go_wp2
  go_ret
  exact ⟨_, rfl, syms_aw7 w _, (Kept.refl _ w).alloc _⟩
theorem wrs_new (w : World) (ws : List (Int × Int)) (cs : Array Value) (T : TypeId) {o : Obj} (ho : o = .cells cs T (0, 0)) (hc : ∀ i (h : i < ws.length), cs[i * 2]? = some (.int .i64 ws[i].1) ∧ cs[i * 2 + 1]? = some (.int .i64 ws[i].2)) (n : Nat) (hn : n = ws.length) : WrsAt (w.alloc o) (.slice (some ⟨w.heap.size, 0, none⟩) n n) ws := by
  subst ho hn
  exact ⟨_, _, rfl, .inr ⟨_, rfl, by simp, fun i hi => ⟨(cellAt (heap_alloc_new w _) _).trans (hc i hi).1, (cellAt (heap_alloc_new w _) _).trans (hc i hi).2⟩⟩⟩
theorem aw7_eq (w : World) : (binOp .eql 28 .nilIface .nilIface).run Try.prog w = .ok (.bool true) w := by kernel_rfl
set_option maxHeartbeats 8000000 in
theorem awake7_any (w : World) : Calls Try.prog 7 #[] w fun e w' => e = .returned (.bool true) ∧ Same0 w w' := by
  have hnn := aw7_eq
  go_enter Try.func7, Try.ntmps7
  go_wp2_with fail
  refine (plain7_any w).mono ?_
  rintro e w0 ⟨g0, rfl, hs0, K0⟩
  go_wp2_with fail
  refine (made_any _ _ _ _ _ hs0 (by decide)).mono ?_
  rintro e w1 ⟨bs, rv, rfl, hsg, _, hk1⟩
  rw [madeL_aw7] at hsg
  have K1 := K0.trans' hk1
  clear hk1 K0 hs0
  go_wp2_with fail
  refine (snew_any hsg).mono ?_
  rintro e w2 ⟨rfl, hst, hk2⟩
  have K2 := K1.trans' hk2
  obtain ⟨b, hb⟩ : ∃ b, b = w1.heap.size := ⟨_, rfl⟩
  have hw2 : w.heap.size ≤ b := by rw [hb]; exact K1.size
  rw [← hb] at hst ⊢
  clear hk2 K1 hsg hb
  go_wp2_with fail
  obtain ⟨ra, ka⟩ := rs_two w2 [2, 0, -1] [-1] [2, 1, -1, -2] [1, 2, -1, -2] 3 3 3 3 39 (by decide) (by decide) (by decide) (by decide) rfl rfl rfl rfl rfl
  refine (add_rules (l := ruA) (lc := 2) (hst.same ka) ra (by decide) (by decide)).mono ?_
  rintro e w3 ⟨ws, v, rfl, hA, hv, hws, hno, hyes⟩
  obtain rfl := hA.uniq aw7_a
  obtain rfl : v = .nilIface := hv
  obtain ⟨lv, vs, hst3, kst, hlv⟩ := hyes rfl
  have K3 : Same0 w w3 := Kept.trans (K2.trans' ka) kst (fun i hi e => by
    rcases e with e | e
    · omega
    · cases e)
  rw [List.nil_append] at hst3
  have hlv' : ∀ k, lv.ownBlock = some k → w.heap.size ≤ k := fun k e => by
    rcases hlv k e with q | q
    · cases q
    · have := (K2.trans' ka).size; omega
  clear hA hws hno hyes kst hst ra ka K2 hlv
  go_wp2_with fail
  obtain ⟨rb, kb⟩ := rs_two w3 [3, 0] [0] [2, -1, 0] [-1] 3 3 3 3 39 (by decide) (by decide) (by decide) (by decide) rfl rfl rfl rfl rfl
  obtain ⟨ro, rc, rfl, hR⟩ := (hst3.same kb).read
  refine (checkR_any (l := ruB) (lc := 2) hR rb (by decide) (by decide)).mono ?_
  rintro e w4 ⟨ws, v4, rfl, hA, hv4, hws, hk4⟩
  obtain rfl := hA.uniq aw7_b
  obtain ⟨k4, rfl⟩ : ∃ k4, v4 = .iface 78 (.pointer (some ⟨k4, 0, none⟩)) := by
    rcases hA.flt hv4 with ⟨e, _⟩ | ⟨_, e⟩
    · cases e
    · exact e
  have K4 := K3.trans' (kb.trans' hk4)
  have hst4 := hst3.same (kb.trans' hk4)
  clear hA hws hk4 kb rb hR hst3 K3
  go_wp2_with fail
  obtain ⟨rd, kd⟩ := rs_two w4 [3, 0] [-1] [2, -1, -1] [-1] 3 3 3 3 39 (by decide) (by decide) (by decide) (by decide) rfl rfl rfl rfl rfl
  refine (add_rules (l := ruC) (lc := 2) (hst4.same kd) rd (by decide) (by decide)).mono ?_
  rintro e w5 ⟨ws, v5, rfl, hA, hv5, hws, hno, hyes⟩
  obtain rfl := hA.uniq aw7_c
  have hk5 := kd.trans' (hno (by simp))
  obtain ⟨k5, rfl⟩ : ∃ k5, v5 = .iface 78 (.pointer (some ⟨k5, 0, none⟩)) := by
    rcases hA.flt hv5 with ⟨e, _⟩ | ⟨_, e⟩
    · cases e
    · exact e
  have K5 := K4.trans' hk5
  have hst5 := hst4.same hk5
  have hv4' := FltAt.same hk5 hv4
  clear hA hws hno hyes hk5 kd rd hst4 K4 hv4
  go_wp2_with fail
  have kx : Same0 w5 (w5.alloc (.cells #[.int .i64 77, .int .i64 1, .int .i64 78, .int .i64 0] 53)) := (Kept.refl _ _).alloc _
  refine (same_flt (FltAt.same kx hv4') (wrs_new w5 [(77, 1), (78, 0)] _ 53 rfl (fun i hi => by have hi' : i < 2 := hi; match i, hi' with | 0, _ => exact ⟨rfl, rfl⟩ | 1, _ => exact ⟨rfl, rfl⟩) 2 rfl) (by decide)).mono ?_
  rintro e w6 ⟨rfl, hk6⟩
  have k6 := kx.trans' hk6
  have K6 := K5.trans' k6
  have hst6 := hst5.same k6
  have hv6 := FltAt.same k6 hv5
  clear kx hk6 k6 K5 hst5 hv5 hv4'
  go_wp2_with fail
  have ky : Same0 w6 (w6.alloc (.cells #[.int .i64 74, .int .i64 1] 53)) := (Kept.refl _ _).alloc _
  refine (same_flt (FltAt.same ky hv6) (wrs_new w6 [(74, 1)] _ 53 rfl (fun i hi => by have hi' : i < 1 := hi; match i, hi' with | 0, _ => exact ⟨rfl, rfl⟩) 1 rfl) (by decide)).mono ?_
  rintro e w7 ⟨rfl, hk7⟩
  have k7 := ky.trans' hk7
  have K7 := K6.trans' k7
  have hst7 := hst6.same k7
  clear ky hk7 k7 K6 hst6 hv6
  have CL := slen_any hst7
  go_wp2_with (first | (go_at_call 10; refine CL.mono ?_; rintro e w8 ⟨rfl, rfl⟩))
  go_ret
  exact ⟨rfl, K7⟩
end Go.Proofs.Ytppdopccipngpaa
