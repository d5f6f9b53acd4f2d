import Derived.Test.YtlemcinjalepkaaGreatGRule14
import Derived.Deep.RegionLaw
import Derived.Test.YtlemcinjalepkaaGreatGRule12
import Derived.Deep.QuietTactic
import Derived.BigQuiet
import Derived.Test.YtlemcinjalepkaaGreatGRule06
import Derived.SizedLaws
/- A store in memory, its rules its own; the walk of Add. -/
namespace Go.Proofs.YtlemcinjalepkaaGreat
set_option maxRecDepth 100000
set_option linter.unusedVariables false
open Go.RowKit
attribute [local go_sem ↓] Go.wp_at_zero Go.wp_at_succ
/-- A store: its signature, its rules, each term in a block of its own. -/
structure StAt (w : World) (b bs : Nat) (L : List Sym) (R : List Ru) (lv : Value) (vs : List Value) : Prop where
  blk : w.heap[b]? = some (.cells #[.pointer (some ⟨bs, 0, none⟩), lv] 130 (0, 0))
  sig : Sg w.heap.size w bs L
  row : w.ownsRow 0 73 2 lv R.length vs
  own : OCells w vs R
  le : R.length ≤ 100
  ok : ∀ x ∈ R, checkE L x.1 = 0 ∧ checkE L x.2 = 0
theorem ok_len {L : List Sym} {x : Ru} (h : checkE L x.1 = 0 ∧ checkE L x.2 = 0) : (0 < x.1.length ∧ x.1.length ≤ 2000) ∧ 0 < x.2.length ∧ x.2.length ≤ 2000 := by
  obtain ⟨a1, _, a2⟩ := checkE_zero.1 h.1
  obtain ⟨b1, _, b2⟩ := checkE_zero.1 h.2
  exact ⟨⟨isT_pos a2, a1⟩, isT_pos b2, b1⟩
theorem StAt.rc {w : World} {b bs : Nat} {L : List Sym} {R : List Ru} {lv : Value} {vs : List Value} (h : StAt w b bs L R lv vs) : RCells w vs R :=
  h.own.rcells (fun x hx => ⟨(ok_len (h.ok x hx)).1.2, (ok_len (h.ok x hx)).2.2⟩)
theorem StAt.read {w : World} {b bs : Nat} {L : List Sym} {R : List Ru} {lv : Value} {vs : List Value} (h : StAt w b bs L R lv vs) : ∃ ro rc, lv = .slice ro R.length rc ∧ StR w b bs ro rc L R := by
  obtain ⟨ao, cap, rfl, h1, h2, _⟩ := row_rules h.row h.rc
  exact ⟨ao, cap, rfl, h.blk, h.sig, h1, h2, h.le, fun x hx => (h.ok x hx).1⟩
/-- The blocks that a store writes: its own, and that of its rules' row. -/
def StoB (w : World) (b : Nat) (lv : Value) (k : Nat) : Prop := k = b ∨ lv.ownBlock = some k
/-- A block of a store or of rules. -/
def IsSt (w : World) (k : Nat) : Prop := (∃ c, w.heap[k]? = some (.cells c 130 (0, 0))) ∨ ∃ c, w.heap[k]? = some (.cells c 73 (0, 0))
theorem own_blk {w : World} {base : Nat} {e : TypeId} {size n : Nat} {v : Value} {xs : List Value} (h : w.ownsRow base e size v n xs) {k : Nat} (hk : v.ownBlock = some k) : ∃ c, w.heap[k]? = some (.cells c e (0, 0)) := by
  rcases h.2 with ⟨rfl, _⟩ | ⟨g, cap, cur, rfl, _, hg, _⟩
  · cases hk
  · simp [Value.ownBlock] at hk; subst hk; exact ⟨cur, hg⟩
theorem StAt.isSt {w : World} {b bs : Nat} {L : List Sym} {R : List Ru} {lv : Value} {vs : List Value} (h : StAt w b bs L R lv vs) : ∀ k, StoB w b lv k → IsSt w k := by
  rintro k (rfl | e)
  · exact .inl ⟨_, h.blk⟩
  · exact .inr (own_blk h.row e)
theorem IsSt.no_int {w : World} {k : Nat} (h : IsSt w k) : ∀ cur, w.heap[k]? ≠ some (.cells cur 3 (0, 0)) := by
  intro cur e
  rcases h with ⟨c, h⟩ | ⟨c, h⟩ <;> (rw [h] at e; cases e)
theorem IsSt.no_sig {w : World} {k b : Nat} {L : List Sym} {sv : Value} {mr : Option Nat} (h : IsSt w k) (hs : SigAt w b L sv mr) : ¬ Foot b sv mr k := by
  rintro (e | e | e)
  · subst e
    have := hs.blk
    rcases h with ⟨c, h⟩ | ⟨c, h⟩ <;> (rw [h] at this; cases this)
  · obtain ⟨c', this⟩ := own_blk hs.row e
    rcases h with ⟨c, h⟩ | ⟨c, h⟩ <;> (rw [h] at this; cases this)
  · subst e
    obtain ⟨n, D, hm, _⟩ := hs.map
    obtain ⟨es, clock, this, _⟩ := hm
    rcases h with ⟨c, h⟩ | ⟨c, h⟩ <;> (rw [h] at this; cases this)
theorem Sg.kept_ty {n b : Nat} {w w' : World} {L : List Sym} {S : Nat → Prop} (h : Sg n w b L) (hk : Kept S w w') (hS : ∀ k, S k → IsSt w k) : Sg n w' b L := by
  obtain ⟨⟨sv, mr, h1, h2⟩, h3⟩ := h
  exact ⟨⟨sv, mr, h1.kept hk (fun k e s => (hS k s).no_sig h1 e), h2⟩, h3⟩
theorem Same0.mono' {S : Nat → Prop} {w w' : World} (h : Same0 w w') : Kept S w w' := h.mono (fun _ _ f => f.elim)
theorem StAt.same {w w' : World} {b bs : Nat} {L : List Sym} {R : List Ru} {lv : Value} {vs : List Value} (h : StAt w b bs L R lv vs) (hk : Same0 w w') : StAt w' b bs L R lv vs :=
  ⟨hk.at0 h.blk, sg_up (h.sig.same hk) hk.size, hk.row h.row (fun _ _ f => f), h.own.same hk, h.le, h.ok⟩
/-- A call, at a step of a region that draws its order, by its contract. -/
theorem step_callx {ops : Array Oper} {o : Oper} {a : Act} {w : World} {K : Act → World → Prop} {Q : Exit → Act → World → Prop} {E : Prop} {f : FuncId} {args : Array Value} {R : Ending → World → Prop} (hgd : o.guard = none)
    (c : Calls Tryz.prog f args w R) (hrun : (execOp a.eval o).run Tryz.prog w = .ok (.enter f args) w) (hR : ∀ e w', R e w' → ∃ v, e = .returned v ∧ (K (a.put o.dst v) w')) :
    if Region.wanted o (yielded ops a.tmps) = true then Oper.wp Tryz.prog o a w K Q else E := by
  have hw : Region.wanted o (yielded ops a.tmps) = true := by simp [Region.wanted, hgd]
  rw [if_pos hw]
  unfold Oper.wp
  rw [hrun, Oper.upon_enter]
  refine c.mono fun e w' h => ?_
  obtain ⟨v, rfl, h2⟩ := hR e w' h
  exact h2
/-- append of rules: where they lie then. -/
theorem run_rules {w0 : World} (ty : TypeId) {base N : Nat} {vs : List Value} {v : Value} (hr : w0.ownsRow base 73 2 v N vs) {ad : Addr} {m c : Nat} {us : List Value} (hl : us.length = m * 2) (hu : ∀ j u, us[j]? = some u → w0.cell? (ad.add j) = some u) (h1 : ∀ u ∈ us, u.oneCell' = true) (hb : base ≤ w0.heap.size) (hsz : N + m ≤ 1000) :
    ∃ v' w', (Builtin.append_ #[24, 24] ty #[v, .slice (some ad) m c]).run Tryz.prog w0 = .ok v' w' ∧ w'.ownsRow base 73 2 v' (N + m) (vs ++ us) ∧ Kept (fun k => v.ownBlock = some k) w0 w' ∧ ∀ k, v'.ownBlock = some k → v.ownBlock = some k ∨ w0.heap.size ≤ k := by
  obtain ⟨i, hi, hz0, hz1, hz2⟩ := info_parts info_rule
  by_cases hm : 0 < m
  · obtain ⟨g, cap, w', q1, q2, q3, q4, _⟩ := run_append_lies (P := Tryz.prog) w0 24 ty base 73 i _ 2 48 Tryz.underlying24 hi hz0 hz1 hz2 rfl (by decide) v N vs hr ad m c us hl hu h1 hm (by unfold maxLen; omega) (by omega) hb w0.heap.size rfl
    refine ⟨_, w', q1, q2, Kept.grown (Kept.refl _ w0) q3 (fun _ e _ => e), fun k e => ?_⟩
    simp [Value.ownBlock] at e
    subst e
    exact q4.imp id (fun e => by omega)
  · obtain rfl : m = 0 := by omega
    obtain ⟨v', w', q1, q2, q3, q4⟩ := run_append_own (P := Tryz.prog) w0 base 24 ty 73 i _ 2 48 Tryz.underlying24 hi hz0 hz1 hz2 rfl (by decide) v N vs hr ad 0 c us hl hu h1 (by unfold maxLen; omega) (by omega) hb
    refine ⟨v', w', q1, q2, Kept.grown (Kept.refl _ w0) q3 (fun _ e _ => e), fun k e => .inl ?_⟩
    rcases hr.2 with ⟨rfl, h0⟩ | ⟨g, cap, cur, rfl, _, hg, g1, g2, g3, g4⟩
    · rw [q4.2 ⟨rfl, rfl⟩] at e; cases e
    · have e0 : us = [] := List.eq_nil_of_length_eq_zero (by omega)
      subst e0
      have := run_append_room (P := Tryz.prog) w0 24 ty 73 i Tryz.underlying24 hi g N cap cur hg ad 0 c [] (by simp) (by simp) (by simp) (by omega) (by rw [hz1, g3]; simp; omega)
      rw [q1] at this
      simp only [Result.ok.injEq] at this
      rw [this.1] at e
      exact e
/-- append of rules, at such a step. -/
theorem step_rules {w0 : World} {ops : Array Oper} {o : Oper} {a : Act} {K : Act → World → Prop} {Q : Exit → Act → World → Prop} {E : Prop} (hgd : o.guard = none) (s x : Operand)
    (ho : o.op = .call { callee := .builtin .append, args := #[s, x], argTypes := #[24, 24] })
    (base N : Nat) (vs : List Value) (v : Value) (hs : a.eval s = v) (hr : w0.ownsRow base 73 2 v N vs) (ad : Addr) (m c : Nat) (us : List Value) (hx : a.eval x = .slice (some ad) m c) (hl : us.length = m * 2) (hu : ∀ j u, us[j]? = some u → w0.cell? (ad.add j) = some u) (h1 : ∀ u ∈ us, u.oneCell' = true) (hb : base ≤ w0.heap.size) (hsz : N + m ≤ 1000)
    (h : ∀ v' w', w'.ownsRow base 73 2 v' (N + m) (vs ++ us) → Kept (fun k => v.ownBlock = some k) w0 w' → (∀ k, v'.ownBlock = some k → v.ownBlock = some k ∨ w0.heap.size ≤ k) → K (a.put o.dst v') w') :
    if Region.wanted o (yielded ops a.tmps) = true then Oper.wp Tryz.prog o a w0 K Q else E := by
  have hw : Region.wanted o (yielded ops a.tmps) = true := by simp [Region.wanted, hgd]
  rw [if_pos hw]
  obtain ⟨v', w', hr1, hr2, hr3, hr4⟩ := run_rules (c := c) o.type hr hl hu h1 hb hsz
  exact Lib.wp_append_run w0 s x 24 24 ho _ _ hs hx v' w' hr1 (h v' w' hr2 hr3 hr4)
theorem err_nil (w : World) : (binOp .neq 37 .nilIface .nilIface).run Tryz.prog w = .ok (.bool false) w := by kernel_rfl
theorem err_flt (v : Value) (w : World) : (binOp .neq 37 (.iface 91 v) .nilIface).run Tryz.prog w = .ok (.bool true) w := by kernel_rfl
/-- What is told is nothing, or a Fault. -/
theorem Ans.flt {L : List Sym} {R l : List Ru} {ws : List (Int × Int)} {w : World} {v : Value} (h : Ans L R l ws) (hf : FltAt w ws v) : (ws = [] ∧ v = .nilIface) ∨ (ws ≠ [] ∧ ∃ k, v = .iface 91 (.pointer (some ⟨k, 0, none⟩))) := by
  rcases h with ⟨rfl, _⟩ | ⟨j, n, _, _, _, _, rfl⟩
  · exact .inl ⟨rfl, hf⟩
  · refine .inr ⟨wrongL_ne _ _ _ _ _, ?_⟩
    unfold wrongL at hf
    have key : ∀ {c : Int} {r : List (Int × Int)}, FltAt w ((c, (n : Int)) :: r) v → ∃ k, v = .iface 91 (.pointer (some ⟨k, 0, none⟩)) := by
      intro c r h
      rcases h with ⟨e, _⟩ | ⟨_, k, u, e, _⟩
      · omega
      · exact ⟨k, e⟩
    split at hf
    · exact key hf
    · split at hf
      · exact key hf
      · exact key hf
/-- What Add answers, and what it has done. -/
def AddPost (L : List Sym) (R l : List Ru) (b bs : Nat) (lv : Value) (w : World) (e : Ending) (w' : World) : Prop :=
  ∃ ws v, e = .returned v ∧ Ans L R l ws ∧ FltAt w' ws v ∧ ws.length ≤ 2 ∧ (ws ≠ [] → Same0 w w') ∧ (ws = [] → ∃ lv' vs', StAt w' b bs L (R ++ l) lv' vs' ∧ Kept (StoB w b lv) w w' ∧ ∀ k, lv'.ownBlock = some k → lv.ownBlock = some k ∨ w.heap.size ≤ k)
theorem Ans.fit {L : List Sym} {R l : List Ru} (h : Ans L R l []) (hR : R.length ≤ 100) : R.length + l.length ≤ 100 ∧ ∀ x ∈ l, checkE L x.1 = 0 ∧ checkE L x.2 = 0 := by
  refine ⟨?_, fun x hx => ?_⟩
  · by_cases h0 : l.length = 0
    · omega
    · have := h.nil 0 (by omega) 0 (by omega)
      simpa [ckB, askB] using this
  · obtain ⟨i, hi, rfl⟩ := List.mem_iff_getElem.1 hx
    have := h.nil 1 (by omega) i hi
    simp only [ckB, askB, Bool.and_eq_true, decide_eq_true_eq] at this
    simpa [List.getD, hi] using this
set_option maxHeartbeats 8000000 in
theorem add_rules {w : World} {b bs : Nat} {L : List Sym} {R : List Ru} {lv : Value} {vs : List Value} {lo : Option Addr} {l : List Ru} {lc : Nat} (h : StAt w b bs L R lv vs) (hl : RsAt w lo l) (hll : l.length ≤ 140737488355328) (hlc : l.length ≤ lc) :
    Calls Tryz.prog 35 #[.pointer (some ⟨b, 0, none⟩), .slice lo l.length lc] w (AddPost L R l b bs lv w) := by
  obtain ⟨ro, rc, rfl, hR⟩ := h.read
  have C := checkR_any hR hl hll hlc
  have hn := err_nil
  have hf := err_flt
  unfold ChkPost at C
  go_enter Tryz.func35, Tryz.ntmps35
  go_upto_region 2 with (first | (go_at_call 65; refine C.mono ?_; rintro e w1 ⟨ws, v, rfl, hA, hv, hws, hk1⟩))
  rcases hA.flt hv with ⟨rfl, rfl⟩ | ⟨hne, k, rfl⟩
  · have A0 : Hid (Ans L R l []) := hA
    obtain ⟨hsz, hok⟩ := hA.fit h.le
    have h1 := h.same hk1
    have hl1 := hl.same hk1
    have CC : Hid (∀ ww, Same0 w1 ww → Calls Tryz.prog 66 #[.slice lo l.length lc] ww fun e w' => ∃ us, e = .returned (.slice (some ⟨ww.heap.size, 0, none⟩) l.length l.length) ∧ w'.ownsRow ww.heap.size 73 2 (.slice (some ⟨ww.heap.size, 0, none⟩) l.length l.length) l.length us ∧ OCells w' us l ∧ Same0 w1 w') := fun ww hk => (copies_any (hl1.same hk) (by omega) (fun x hx => ok_len (hok x hx))).mono (fun e w' ⟨us, q1, q2, q3, q4⟩ => ⟨us, q1, q2, q3, hk.trans' q4⟩)
    have HB : Hid (∀ ww, Same0 w1 ww → ww.cell? ⟨b, 1, none⟩ = some (.slice ro R.length rc) ∧ ww.ownsRow 0 73 2 (.slice ro R.length rc) R.length vs) := fun ww hk => ⟨cellAt (h1.same hk).blk 1, (h1.same hk).row⟩
    have HU : Hid (∀ w2 g us, w2.ownsRow g 73 2 (.slice (some ⟨g, 0, none⟩) l.length l.length) l.length us → OCells w2 us l → us.length = l.length * 2 ∧ (∀ j u, us[j]? = some u → w2.cell? ((⟨g, 0, none⟩ : Addr).add j) = some u) ∧ ∀ u ∈ us, u.oneCell' = true) := fun w2 g us r o => ⟨o.1, r.cells rfl, (o.rcells (fun x hx => ⟨(ok_len (hok x hx)).1.2, (ok_len (hok x hx)).2.2⟩)).one⟩
    have HC7 : Hid (∀ w2 w7, Same0 w1 w2 → Kept (fun k => (Value.slice ro R.length rc).ownBlock = some k) w2 w7 → w7.cell? ⟨b, 1, none⟩ = some (.slice ro R.length rc) ∧ w7.frozen? ⟨b, 1, none⟩ = false) := fun w2 w7 k1 k2 => by
      have h2 := h1.same k1
      have b7 := k2.at h2.blk (fun e => by
        obtain ⟨c, hc⟩ := own_blk h2.row e
        rw [h2.blk] at hc; cases hc)
      exact ⟨cellAt b7 1, frozenAt b7 1⟩
    have FIN : Hid (∀ w2 w7 us vo vc, Same0 w1 w2 → OCells w2 us l → w7.ownsRow 0 73 2 (.slice vo (R.length + l.length) vc) (R.length + l.length) (vs ++ us) → Kept (fun k => (Value.slice ro R.length rc).ownBlock = some k) w2 w7 → (∀ k, (Value.slice vo (R.length + l.length) vc).ownBlock = some k → (Value.slice ro R.length rc).ownBlock = some k ∨ w2.heap.size ≤ k) → ∃ lv' vs', StAt (w7.setCell ⟨b, 1, none⟩ (.slice vo (R.length + l.length) vc)) b bs L (R ++ l) lv' vs' ∧ Kept (StoB w b (.slice ro R.length rc)) w (w7.setCell ⟨b, 1, none⟩ (.slice vo (R.length + l.length) vc)) ∧ ∀ k, lv'.ownBlock = some k → (Value.slice ro R.length rc).ownBlock = some k ∨ w.heap.size ≤ k) := by
      intro w2 w7 us vo vc k1 o2 r7 k7 hat
      have h2 := h1.same k1
      have k0 : Same0 w w2 := hk1.trans' k1
      have ks : Kept (StoB w b (.slice ro R.length rc)) w2 (w7.setCell ⟨b, 1, none⟩ (.slice vo (R.length + l.length) vc)) := Kept.setCell (p := ⟨b, 1, none⟩) (k7.mono (S' := StoB w b (.slice ro R.length rc)) (fun _ _ e => .inr e)) (fun _ => .inl rfl) _
      have b7 : w7.heap[b]? = some (.cells #[.pointer (some ⟨bs, 0, none⟩), .slice ro R.length rc] 130 (0, 0)) := k7.at h2.blk (fun e => by
        obtain ⟨c, hc⟩ := own_blk h2.row e
        rw [h2.blk] at hc; cases hc)
      have ty := fun k e => (h2.isSt k e).no_int
      have hok2 : ∀ x ∈ R ++ l, checkE L x.1 = 0 ∧ checkE L x.2 = 0 := fun x hx => by
        rcases List.mem_append.1 hx with q | q
        · exact h.ok x q
        · exact hok x q
      refine ⟨.slice vo (R.length + l.length) vc, vs ++ us, ⟨setAt b7 1 _, sg_up (h2.sig.kept_ty ks h2.isSt) ks.size, ?_, (h2.own.kept ks ty).append (o2.kept ks ty), by simp; omega, hok2⟩, Kept.trans k0.mono' ks (fun _ _ e => e), fun k e => (hat k e).imp id (fun q => by have := k0.size; omega)⟩
      rw [List.length_append]
      have kb : Kept (fun k => k = b) w7 (w7.setCell ⟨b, 1, none⟩ (.slice vo (R.length + l.length) vc)) := Kept.setCell (p := ⟨b, 1, none⟩) (Kept.refl (fun k => k = b) w7) (fun _ => rfl) _
      exact kb.row r7 (fun k e q => by
        subst q
        obtain ⟨c, hc⟩ := own_blk r7 e
        rw [b7] at hc; cases hc)
    clear hA hv C h hl hR h1 hl1 hok
    obtain ⟨c1, _⟩ := HB.out w1 (Kept.refl _ _)
    go_wp2
    go_region_law (first
      | (refine step_rules (by rfl) _ _ (by rfl) 0 R.length vs (.slice ro R.length rc) (by rfl) r2 ⟨_, 0, none⟩ l.length l.length us (by rfl) u1 u2 u3 (Nat.zero_le _) (by omega) ?_; intro v7 w7 r7 k7 hat7; obtain ⟨vo, vc, rfl⟩ := row_shape r7; obtain ⟨c7, f7⟩ := HC7.out w2 w7 k2 k7)
      | (refine step_callx rfl (CC.out _ (Kept.drew (Kept.refl _ _))) (by simp [go_sem]) ?_; rintro e w2 ⟨us, rfl, rr2, o2, k2⟩; refine ⟨_, rfl, ?_⟩; obtain ⟨c2, r2⟩ := HB.out w2 k2; obtain ⟨u1, u2, u3⟩ := HU.out _ _ _ rr2 o2))
    all_goals
      have FF : Hid (∃ lv' vs', StAt (w7.setCell ⟨b, 1, none⟩ (.slice vo (R.length + l.length) vc)) b bs L (R ++ l) lv' vs' ∧ Kept (StoB w b (.slice ro R.length rc)) w (w7.setCell ⟨b, 1, none⟩ (.slice vo (R.length + l.length) vc)) ∧ ∀ k, lv'.ownBlock = some k → (Value.slice ro R.length rc).ownBlock = some k ∨ w.heap.size ≤ k) := FIN.out w2 w7 us vo vc k2 o2 r7 k7 hat7
      clear c1 c2 r2 u1 u2 u3 rr2 o2 r7 k7 c7 f7 hat7
      go_wp2
      go_ret
      exact ⟨[], _, rfl, A0.out, rfl, by simp, fun q => absurd rfl q, fun _ => FF.out⟩
  · have A0 : Hid (Ans L R l ws) := hA
    clear C hA
    go_wp2
    go_ret
    exact ⟨ws, _, rfl, A0.out, hv, hws, fun _ => hk1, fun e => absurd e hne⟩
end Go.Proofs.YtlemcinjalepkaaGreat
/- The walk of the laws' Same at errors one within the other. -/
namespace Go.Proofs.YtlemcinjalepkaaGreat
open Go.RowKit
set_option linter.unusedVariables false
set_option maxRecDepth 100000
theorem sm_fault (W : World) (v : Value) : (Instr.typeAssert (.iface 91 v) 37 91 true).run Tryz.prog W = .ok (.tuple #[v, .bool true]) W := by kernel_rfl
theorem sm_errno (W : World) (v : Value) : (Instr.typeAssert (.iface 54 v) 37 54 true).run Tryz.prog W = .ok (.tuple #[v, .bool true]) W := by kernel_rfl
theorem sm_nil (W : World) : (binOp .eql 37 .nilIface .nilIface).run Tryz.prog W = .ok (.bool true) W := by kernel_rfl
/-- What the document says of an error, in memory. -/
def WrsAt (w : World) (lv : Value) (ws : List (Int × Int)) : Prop :=
  ∃ lo lc, lv = .slice lo ws.length lc ∧ (ws = [] ∨ ∃ b, lo = some ⟨b, 0, none⟩ ∧ b < w.heap.size ∧ ∀ i (h : i < ws.length), w.cell? ⟨b, i * 2, none⟩ = some (.int .i64 ws[i].1) ∧ w.cell? ⟨b, i * 2 + 1, none⟩ = some (.int .i64 ws[i].2))
theorem WrsAt.same {w w' : World} {lv : Value} {ws : List (Int × Int)} (h : WrsAt w lv ws) (hk : Same0 w w') : WrsAt w' lv ws := by
  obtain ⟨lo, lc, e, h⟩ := h
  refine ⟨lo, lc, e, h.imp id ?_⟩
  rintro ⟨b, e, hb, hc⟩
  exact ⟨b, e, Nat.lt_of_lt_of_le hb hk.size, fun i hi => ⟨(hk.cell (p := ⟨b, i * 2, none⟩) hb (fun f => f)).trans (hc i hi).1, (hk.cell (p := ⟨b, i * 2 + 1, none⟩) hb (fun f => f)).trans (hc i hi).2⟩⟩
set_option maxHeartbeats 8000000 in
theorem same_flt {w : World} {er lv : Value} {ws : List (Int × Int)} (h : FltAt w ws er) (hl : WrsAt w lv ws) (hn : ws.length ≤ 2) :
    Calls Tryz.prog 15 #[er, lv] w fun e w' => e = .returned (.bool true) ∧ Same0 w w' := by
  obtain ⟨lo, lc, rfl, hl⟩ := hl
  go_enter Tryz.func15, Tryz.ntmps15
  go_wp2
  go_loopw [0, 5] (fun er i wr => ∃ m k : Nat, k ≤ ws.length ∧ wr = w.drewN m ∧ i = .int .i64 (k : Int) ∧ Hid (FltAt w (ws.drop k) er)) (fun _ i _ => ws.length - (intOf i).toNat)
  case atStart => exact ⟨0, 0, Nat.zero_le _, rfl, rfl, h⟩
  case round =>
    clear h
    obtain ⟨m, k, hk, rfl, rfl, hf⟩ := hrel
    by_cases hlt : k < ws.length
    · obtain ⟨b, rfl, _, hc⟩ : ∃ b, lo = some ⟨b, 0, none⟩ ∧ b < w.heap.size ∧ ∀ i (h : i < ws.length), w.cell? ⟨b, i * 2, none⟩ = some (.int .i64 ws[i].1) ∧ w.cell? ⟨b, i * 2 + 1, none⟩ = some (.int .i64 ws[i].2) := by
        rcases hl with e | e
        · rw [e] at hlt; simp at hlt
        · exact e
      obtain ⟨g0, g1⟩ := hc k hlt
      have i1 : (0 : Int) ≤ (k : Int) := by omega
      have i2 : (k : Int) < (ws.length : Int) := by omega
      have hf' := hf.out
      rw [List.drop_eq_getElem_cons hlt] at hf'
      obtain ⟨c, p, hcp⟩ : ∃ c p, ws[k] = (c, p) := ⟨_, _, rfl⟩
      rw [hcp] at hf' g0 g1
      simp only at g0 g1
      rcases hf' with ⟨rfl, hnil, rfl⟩ | ⟨hp, d, u, rfl, hd, hu⟩
      · have hlast : (k : Int) = (ws.length : Int) - 1 := by
          have := congrArg List.length hnil
          simp at this
          omega
        have hlast' : ((k : Int) == (ws.length : Int) - 1) = true := by simpa using hlast
        have hta := fun v => sm_errno (w.drewN m) v
        clear hc hf hnil hlast hl hcp
        go_wp2
        go_ret
        exact ⟨by first | rfl | simp, (Kept.refl _ w).drewN m⟩
      · have b0 : w.cell? ⟨d, 0, none⟩ = some (.int .i64 c) := cellAt hd 0
        have b1 : w.cell? ⟨d, 1, none⟩ = some (.int .i64 p) := cellAt hd 1
        have b2 : w.cell? ⟨d, 2, none⟩ = some u := cellAt hd 2
        have hp1 : (p == -1) = false := by simpa using hp
        have hta := fun v => sm_fault (w.drewN m) v
        have HU : Hid (FltAt w (ws.drop (k + 1)) u) := hu
        clear hc hf hd hu hp hl hcp
        go_wp2
        clear hta hp1
        go_quiet (fail)
        go_wp2
        exact ⟨⟨m + nq, k + 1, by omega, rfl, by go_num, HU⟩, by simp [intOf]; omega⟩
    · have hf' := hf.out
      rw [List.drop_of_length_le (by omega)] at hf'
      obtain rfl : _ = Value.nilIface := hf'
      have hnn := sm_nil (w.drewN m)
      go_wp2
      go_ret
      exact ⟨rfl, (Kept.refl _ w).drewN m⟩
end Go.Proofs.YtlemcinjalepkaaGreat
/- The walks of New and Len, and of the head of layer 7's statements. -/
namespace Go.Proofs.YtlemcinjalepkaaGreat
set_option maxRecDepth 100000
set_option linter.unusedVariables false
open Go.RowKit
attribute [local go_sem ↓] Go.wp_at_zero Go.wp_at_succ
theorem snew_any {w : World} {bs : Nat} {L : List Sym} (h : Sg w.heap.size w bs L) : Calls Tryz.prog 34 #[.pointer (some ⟨bs, 0, none⟩)] w fun e w' => e = .returned (.pointer (some ⟨w.heap.size, 0, none⟩)) ∧ StAt w' w.heap.size bs L [] (.slice none 0 0) [] ∧ Same0 w w' := by
  have K : Same0 w (w.alloc (.cells #[.pointer (some ⟨bs, 0, none⟩), .slice none 0 0] 130)) := (Kept.refl _ w).alloc _
  have H : Hid (StAt (w.alloc (.cells #[.pointer (some ⟨bs, 0, none⟩), .slice none 0 0] 130)) w.heap.size bs L [] (.slice none 0 0) []) := ⟨heap_alloc_new _ _, sg_up (h.same K) K.size, World.ownsRow_nil _ _ _ _, ⟨rfl, fun i hi => absurd hi (by simp)⟩, by simp, fun x hx => by simp at hx⟩
  clear h
  go_enter Tryz.func34, Tryz.ntmps34
  go_wp2
  go_ret
  exact ⟨rfl, H.out, K⟩
/-! ### the symbols and rules of the head -/
abbrev fS : Sym := ⟨⟨#[102]⟩, 1, true⟩
abbrev L4 : List Sym := [zS, aS, aAdd, fS]
theorem nm_f : nameB ⟨#[102]⟩ = true := by decide +kernel
theorem madeL_aw7 : madeL L4 = L4 := by
  simp [madeL, addL, addErr, nm_z, nm_s, nm_add, nm_f, findI]
abbrev ruA : List Ru := [([2, 0, -1], [-1]), ([2, 1, -1, -2], [1, 2, -1, -2])]
abbrev ruB : List Ru := [([3, 0], [0]), ([2, -1, 0], [-1])]
abbrev ruC : List Ru := [([3, 0], [-1]), ([2, -1, -1], [-1])]
theorem aw7_a : Ans L4 [] ruA [] := Ans.of_all (by decide +kernel)
theorem aw7_b : Ans L4 ruA ruB [(77, 1), (78, 0)] := .inr ⟨7, 1, by omega, by decide, ⟨by decide +kernel, by decide +kernel⟩, by decide +kernel, by decide +kernel⟩
theorem aw7_c : Ans L4 ruA ruC [(74, 1)] := .inr ⟨4, 1, by omega, by decide, ⟨by decide +kernel, by decide +kernel⟩, by decide +kernel, by decide +kernel⟩
theorem ints_arg (w : World) (xs : List Int) (T : TypeId) (hx : xs.length ≤ 2000) {o : Obj} (ho : o = .cells (iv xs).toArray T (0, 0)) : Arg (w.alloc o) (some ⟨w.heap.size, 0, none⟩) xs xs.length :=
  ⟨ints_new w xs T ho, Nat.le_refl _, (fun e => by cases e), by omega⟩
/-- Two rules that a call lays. -/
theorem rs_two (w : World) (x1 x2 y1 y2 : List Int) (T1 T2 T3 T4 T5 : TypeId) (b1 : x1.length ≤ 2000) (b2 : x2.length ≤ 2000) (b3 : y1.length ≤ 2000) (b4 : y2.length ≤ 2000) {o1 o2 o3 o4 o5 : Obj} (h1 : o1 = .cells (iv x1).toArray T1 (0, 0)) (h2 : o2 = .cells (iv x2).toArray T2 (0, 0)) (h3 : o3 = .cells (iv y1).toArray T3 (0, 0)) (h4 : o4 = .cells (iv y2).toArray T4 (0, 0))
    (h5 : o5 = .cells #[.slice (some ⟨w.heap.size, 0, none⟩) x1.length x1.length, .slice (some ⟨w.heap.size + 1, 0, none⟩) x2.length x2.length, .slice (some ⟨w.heap.size + 1 + 1, 0, none⟩) y1.length y1.length, .slice (some ⟨w.heap.size + 1 + 1 + 1, 0, none⟩) y2.length y2.length] T5 (0, 0)) :
    RsAt (((((w.alloc o1).alloc o2).alloc o3).alloc o4).alloc o5) (some ⟨w.heap.size + 1 + 1 + 1 + 1, 0, none⟩) [(x1, x2), (y1, y2)] ∧ Same0 w (((((w.alloc o1).alloc o2).alloc o3).alloc o4).alloc o5) := by
  have k1 : Same0 w (w.alloc o1) := (Kept.refl _ w).alloc _
  have k2 : Same0 (w.alloc o1) ((w.alloc o1).alloc o2) := (Kept.refl _ _).alloc _
  have k3 : Same0 ((w.alloc o1).alloc o2) (((w.alloc o1).alloc o2).alloc o3) := (Kept.refl _ _).alloc _
  have k4 : Same0 (((w.alloc o1).alloc o2).alloc o3) ((((w.alloc o1).alloc o2).alloc o3).alloc o4) := (Kept.refl _ _).alloc _
  have k5 : Same0 ((((w.alloc o1).alloc o2).alloc o3).alloc o4) (((((w.alloc o1).alloc o2).alloc o3).alloc o4).alloc o5) := (Kept.refl _ _).alloc _
  have a1 := ((((ints_arg w x1 T1 b1 h1).same k2).same k3).same k4).same k5
  have a2 := (((ints_arg (w.alloc o1) x2 T2 b2 h2).same k3).same k4).same k5
  have a3 := ((ints_arg ((w.alloc o1).alloc o2) y1 T3 b3 h3).same k4).same k5
  have a4 := (ints_arg (((w.alloc o1).alloc o2).alloc o3) y2 T4 b4 h4).same k5
  have hb := heap_alloc_new ((((w.alloc o1).alloc o2).alloc o3).alloc o4) o5
  simp only [World.size_alloc] at a2 a3 a4 hb
  rw [h5] at hb
  refine ⟨.inr ⟨_, 0, rfl, by simp, fun i hi => ?_⟩, (((k1.trans' k2).trans' k3).trans' k4).trans' k5⟩
  rw [h5] at *
  have hi' : i < 2 := by simpa using hi
  match i, hi' with
  | 0, _ => exact ⟨_, _, _, _, cellAt hb 0, cellAt hb 1, a1, a2⟩
  | 1, _ => exact ⟨_, _, _, _, cellAt hb 2, cellAt hb 3, a3, a4⟩
theorem syms_aw7 (w : World) (T : TypeId) : SymsAt (w.alloc (.cells #[.string ⟨#[122]⟩, .int .i64 0, .bool false, .string ⟨#[115]⟩, .int .i64 1, .bool false, .string ⟨#[97, 100, 100]⟩, .int .i64 2, .bool true, .string ⟨#[102]⟩, .int .i64 1, .bool true] T)) (some ⟨w.heap.size, 0, none⟩) 4 L4 := by
  refine ⟨rfl, .inr ⟨_, _, rfl, by simp, fun i hi => ?_⟩, ?_⟩
  · have hi' : i < 4 := by simpa using hi
    rw [cellAt (heap_alloc_new w _), cellAt (heap_alloc_new w _), cellAt (heap_alloc_new w _)]
    match i, hi' with
    | 0, _ => exact ⟨rfl, rfl, rfl⟩
    | 1, _ => exact ⟨rfl, rfl, rfl⟩
    | 2, _ => exact ⟨rfl, rfl, rfl⟩
    | 3, _ => exact ⟨rfl, rfl, rfl⟩
  · intro x hx
    simp at hx
    rcases hx with rfl | rfl | rfl | rfl <;> exact ⟨by decide +kernel, by decide +kernel⟩
theorem wrs_new (w : World) (ws : List (Int × Int)) (cs : Array Value) (T : TypeId) {o : Obj} (ho : o = .cells cs T (0, 0)) (hc : ∀ i (h : i < ws.length), cs[i * 2]? = some (.int .i64 ws[i].1) ∧ cs[i * 2 + 1]? = some (.int .i64 ws[i].2)) (n : Nat) (hn : n = ws.length) : WrsAt (w.alloc o) (.slice (some ⟨w.heap.size, 0, none⟩) n n) ws := by
  subst ho hn
  exact ⟨_, _, rfl, .inr ⟨_, rfl, by simp, fun i hi => ⟨(cellAt (heap_alloc_new w _) _).trans (hc i hi).1, (cellAt (heap_alloc_new w _) _).trans (hc i hi).2⟩⟩⟩
theorem aw7_eq (w : World) : (binOp .eql 37 .nilIface .nilIface).run Tryz.prog w = .ok (.bool true) w := by kernel_rfl
end Go.Proofs.YtlemcinjalepkaaGreat
/- The walks of At, and of the laws' begun. -/
namespace Go.Proofs.YtlemcinjalepkaaGreat
set_option maxRecDepth 100000
set_option linter.unusedVariables false
open Go.RowKit
attribute [local go_sem ↓] Go.wp_at_zero Go.wp_at_succ
set_option maxHeartbeats 2000000 in
theorem sat_no {w : World} {b bs : Nat} {L : List Sym} {R : List Ru} {lv : Value} {vs : List Value} (h : StAt w b bs L R lv vs) (n : Int) (hn : n < 0 ∨ (R.length : Int) ≤ n) :
    Calls Tryz.prog 29 #[.pointer (some ⟨b, 0, none⟩), .int .i64 n] w fun e w' => e = .returned (.tuple #[.agg #[.slice none 0 0, .slice none 0 0], .int .i64 79]) ∧ Same0 w w' := by
  have K : ∀ o, Same0 w (w.alloc o) := fun o => (Kept.refl _ w).alloc o
  obtain ⟨ro, rc, rfl, hR⟩ := h.read
  have C := fun o => (hR.same (K o)).cells.2
  clear h hR
  rcases hn with hn | hn
  · go_enter Tryz.func29, Tryz.ntmps29
    go_wp2
    exact bodyPost_ret (v := .tuple #[.agg #[.slice none 0 0, .slice none 0 0], .int .i64 79]) (by simp [results, Tryz.results29, go_sem]) rfl ⟨rfl, K _⟩
  · have hn' : ¬ n < 0 := by omega
    go_enter Tryz.func29, Tryz.ntmps29
    go_wp2
    exact bodyPost_ret (v := .tuple #[.agg #[.slice none 0 0, .slice none 0 0], .int .i64 79]) (by simp [results, Tryz.results29, go_sem]) rfl ⟨rfl, K _⟩
/-- A rule that is given out: each side in new memory. -/
def RuOut (base : Nat) (w : World) (v : Value) (x : Ru) : Prop := ∃ g c g' c', v = .agg #[.slice (some ⟨g, 0, none⟩) x.1.length c, .slice (some ⟨g', 0, none⟩) x.2.length c'] ∧ TmAt w g c x.1 ∧ TmAt w g' c' x.2 ∧ base ≤ g ∧ base ≤ g' ∧ g ≠ g'
set_option maxHeartbeats 2000000 in
theorem sat_yes {w : World} {b bs : Nat} {L : List Sym} {R : List Ru} {lv : Value} {vs : List Value} (h : StAt w b bs L R lv vs) (i : Nat) (hi : i < R.length) :
    Calls Tryz.prog 29 #[.pointer (some ⟨b, 0, none⟩), .int .i64 (i : Int)] w fun e w' => ∃ v, e = .returned (.tuple #[v, .int .i64 0]) ∧ RuOut w.heap.size w' v R[i] ∧ Same0 w w' := by
  have K : Same0 w (w.alloc (.cells #[.slice none 0 0, .slice none 0 0] 73)) := (Kept.refl _ w).alloc _
  have hz := ok_len (h.ok _ (List.getElem_mem hi))
  have hle := h.le
  obtain ⟨ro, rc, rfl, hR⟩ := h.read
  have hR1 := hR.same K
  have C := hR1.cells.2
  obtain ⟨gb, goff, rfl, hgb, ao, ac, bo, bc, r0, r1, A1, A2⟩ := hR1.rs.get hi
  have CC := copied_any (ac := ac) (bc := bc) (x := R[i]) A1.at' A2.at' hz.1.1 hz.2.1 hz.1.2 hz.2.2
  have G0 := heap_alloc_new w (.cells #[.slice none 0 0, .slice none 0 0] 73)
  have HF : Hid (∀ ww, Same0 (w.alloc (.cells #[.slice none 0 0, .slice none 0 0] 73)) ww → (ww.cell? ⟨w.heap.size, 0, none⟩ = some (.slice none 0 0) ∧ ww.cell? ⟨w.heap.size, 1, none⟩ = some (.slice none 0 0)) ∧ ww.frozen? ⟨w.heap.size, 0, none⟩ = false ∧ ww.frozen? ⟨w.heap.size, 1, none⟩ = false) := fun ww hk => ⟨⟨cellAt (hk.at0 G0) 0, cellAt (hk.at0 G0) 1⟩, frozenAt (hk.at0 G0) 0, frozenAt (hk.at0 G0) 1⟩
  have HR : Hid (∀ ww (A B : Value), Same0 (w.alloc (.cells #[.slice none 0 0, .slice none 0 0] 73)) ww → ((ww.setCell ⟨w.heap.size, 0, none⟩ A).setCell ⟨w.heap.size, 1, none⟩ B).cell? ⟨w.heap.size, 0, none⟩ = some A ∧ ((ww.setCell ⟨w.heap.size, 0, none⟩ A).setCell ⟨w.heap.size, 1, none⟩ B).cell? ⟨w.heap.size, 1, none⟩ = some B) := fun ww A B hk => by
    have b := setAt (setAt (hk.at0 G0) 0 A) 1 B
    exact ⟨cellAt b 0, cellAt b 1⟩
  have HE : Hid (∀ ww (A B : Value), Same0 (w.alloc (.cells #[.slice none 0 0, .slice none 0 0] 73)) ww → Same0 w ((ww.setCell ⟨w.heap.size, 0, none⟩ A).setCell ⟨w.heap.size, 1, none⟩ B)) := fun ww A B hk => ((K.trans' hk).setCell (fun h => absurd h (by simp)) _).setCell (fun h => absurd h (by simp)) _
  have HT : Hid (∀ ww g c xs (A B : Value), TmAt ww g c xs → w.heap.size + 1 ≤ g → TmAt ((ww.setCell ⟨w.heap.size, 0, none⟩ A).setCell ⟨w.heap.size, 1, none⟩ B) g c xs) := fun ww g c xs A B ht hg => by
    have k : Kept (fun k => k = w.heap.size) ww ((ww.setCell ⟨w.heap.size, 0, none⟩ A).setCell ⟨w.heap.size, 1, none⟩ B) := Kept.setCell (p := ⟨w.heap.size, 1, none⟩) (Kept.setCell (p := ⟨w.heap.size, 0, none⟩) (Kept.refl (fun k => k = w.heap.size) ww) (fun _ => rfl) A) (fun _ => rfl) B
    exact k.row ht (fun i e => by simp [Value.ownBlock] at e; omega)
  have i1 : (0 : Int) ≤ (i : Int) := by omega
  have i2 : (i : Int) < (R.length : Int) := by omega
  clear h hR hR1 K A1 A2 hz G0
  simp only [World.size_alloc] at CC
  go_enter Tryz.func29, Tryz.ntmps29
  go_wp2_with (first | (go_at_call 61; refine CC.mono ?_; rintro e w2 ⟨g, c, g', c', rfl, t1, t2, q1, q2, q3, hk2⟩; obtain ⟨⟨c1, c2⟩, f1, f2⟩ := HF.out _ hk2))
  exact bodyPost_ret (v := .tuple #[.agg #[.slice (some ⟨g, 0, none⟩) R[i].1.length c, .slice (some ⟨g', 0, none⟩) R[i].2.length c'], .int .i64 0]) (by obtain ⟨r0, r1⟩ := HR.out w2 (.slice (some ⟨g, 0, none⟩) R[i].1.length c) (.slice (some ⟨g', 0, none⟩) R[i].2.length c') hk2; simp [results, Tryz.results29, go_sem, r0, r1]) rfl ⟨_, rfl, ⟨g, c, g', c', rfl, HT.out _ _ _ _ _ _ t1 q1, HT.out _ _ _ _ _ _ t2 q2, by omega, by omega, q3⟩, HE.out _ _ _ hk2⟩
end Go.Proofs.YtlemcinjalepkaaGreat
/- Rules that were taken, in plain words; the argument of layer 7's statements, opened. -/
namespace Go.Proofs.YtlemcinjalepkaaGreat
set_option linter.unusedVariables false
set_option maxRecDepth 100000
open Go.RowKit Go.Deep
/-- Rules that were taken. -/
def GoodR (L : List Sym) (R : List Ru) : Prop := R.length ≤ 100 ∧ ∀ i (h : i < R.length) (j : Nat), j + 1 < 8 → askB L 0 (R.take i) R[i] (j + 1) = true
theorem GoodR.nil (L : List Sym) : GoodR L [] := ⟨by simp, fun i h => absurd h (by simp)⟩
theorem ask_any (L : List Sym) (N M : Nat) (A : List Ru) (x : Ru) (j : Nat) : askB L N A x (j + 1) = askB L M A x (j + 1) := by
  match j with
  | 0 => rfl
  | 1 => rfl
  | 2 => rfl
  | 3 => rfl
  | 4 => rfl
  | 5 => rfl
  | j + 6 => rfl
theorem GoodR.add {L : List Sym} {R l : List Ru} (h : GoodR L R) (ha : Ans L R l []) : GoodR L (R ++ l) := by
  refine ⟨by simpa using (ha.fit h.1).1, fun i hi j hj => ?_⟩
  by_cases hl : i < R.length
  · rw [List.getElem_append_left hl, List.take_append_of_le_length (by omega)]
    exact h.2 i hl j hj
  · have hm : i - R.length < l.length := by simp at hi; omega
    have := ha.nil (j + 1) hj (i - R.length) hm
    rw [List.getElem_append_right (by omega), List.take_append, List.take_of_length_le (by omega)]
    unfold ckB at this
    rw [ask_any L _ 0] at this
    simpa [List.getD, hm] using this
structure RFacts (L : List Sym) (R : List Ru) (i : Nat) (x : Ru) : Prop where
  ok : checkE L x.1 = 0 ∧ checkE L x.2 = 0
  l1 : x.1.length ≤ 200
  l2 : x.2.length ≤ 200
  pos : 0 < x.1.length
  top : ∀ h : 0 < x.1.length, defB L x.1[0] = true
  low : ∀ k (h : k < x.1.length), 0 < k → defB L x.1[k] = false
  apart : ∀ k (hk : k < i) (h : k < R.length), claB L x.1 R[k].1 = true ∧ claE L x.1 R[k].1 = 0
theorem GoodR.facts {L : List Sym} {R : List Ru} (h : GoodR L R) {i : Nat} (hi : i < R.length) : RFacts L R i R[i] := by
  have ok : ∀ k (hk : k < R.length), checkE L R[k].1 = 0 ∧ checkE L R[k].2 = 0 := fun k hk => by
    have := h.2 k hk 0 (by omega)
    simpa [askB] using this
  have o := ok i hi
  have s := h.2 i hi 1 (by omega)
  have t := h.2 i hi 2 (by omega)
  have b := h.2 i hi 4 (by omega)
  have v := h.2 i hi 6 (by omega)
  have hp := (ok_len o).1.1
  simp only [askB, Bool.and_eq_true, decide_eq_true_eq] at s t b v
  refine ⟨o, s.1, s.2, hp, fun hp' => ?_, fun k hk h0 => ?_, fun k hk hk' => ?_⟩
  · have e1 : R[i].1.headD (-1) = R[i].1[0] := by
      generalize R[i].1 = y at *
      cases y with
      | nil => simp at hp
      | cons y r => simp
    rw [← e1]; exact t
  · have := List.all_eq_true.1 b R[i].1[k] (by
      rw [List.mem_iff_getElem]
      exact ⟨k - 1, by simp; omega, by simp; congr 1; omega⟩)
    simpa using this
  · have := List.all_eq_true.1 v R[k] (by
      rw [List.mem_iff_getElem]
      exact ⟨k, by simp; omega, by simp⟩)
    have ok' := ok k hk'
    rw [meetB_eq ok'.1 o.1] at this
    exact ⟨by simpa using this, by simp [claE, o.1, ok'.1]⟩
theorem bytes_rule : Tryz.prog.bytesOf 73 = 48 := by kernel_rfl
theorem cells_rule : Tryz.prog.cellsOf 73 = 2 := by kernel_rfl
theorem cells_rules : Tryz.prog.cellsOf 24 = 1 := by kernel_rfl
/-- Rules that came in. -/
structure ArgR (w : World) (lo : Option Addr) (l : List Ru) (cap : Nat) : Prop where
  at' : RsAt w lo l
  cap' : l.length ≤ cap
  size : l.length * 48 ≤ 140737488351232
section
variable {H : Type} {enc : TypeId × Value → H} {w : World} {spare : Nat → Bool} {held : Bool}
theorem weightsAll_mem7 {P : Program} {e : TypeId} {l : List (DataW H)} {d : DataW H} (h : d ∈ l) {n : Nat} (hn : n ∈ d.weights P e) : n ∈ DataW.weightsAll P e l := by
  induction l with
  | nil => cases h
  | cons x r ih =>
    simp only [DataW.weightsAll, List.mem_append]
    rcases List.mem_cons.1 h with q | q
    · subst q; exact .inl hn
    · exact .inr (ih q)
/-- The elements of a slice, their weights among its own. -/
theorem open_elems7 {t e c fuel : Nat} {ao : Option Addr} {len cap : Nat} {x : DataW H × List MemPlace} (ht : Tryz.prog.underlying t = some (.slice e)) (hc : Tryz.prog.cellsOf e = c) (h0 : 0 < c) (h : DataW.trod enc Tryz.prog w 0 spare held fuel t [.slice ao len cap] = some x) (hw : ∀ n ∈ x.1.weights Tryz.prog t, n ≤ reachBytes) :
    (ao = none ∧ len = 0 ∧ cap = 0) ∨ ∃ a, ao = some a ∧ len ≤ cap ∧ cap ≤ maxLen ∧ len * Tryz.prog.bytesOf e ≤ reachBytes ∧ ∀ i, i < len → a = ⟨a.block, a.off, none⟩ ∧ a.block < w.heap.size ∧ ∃ cs n y, cs.length = c ∧ (∀ j, j < c → w.cell? ⟨a.block, a.off + i * c + j, none⟩ = cs[j]?) ∧ DataW.trod enc Tryz.prog w 0 spare held n e cs = some y ∧ ∀ n ∈ y.1.weights Tryz.prog e, n ≤ reachBytes := by
  rcases open_slice ht h with ⟨hcs, _⟩ | ⟨a, len', cap', m, n, D, Pl, hcs, _, hl, hm, hmm, rfl, hx⟩
  · simp at hcs; exact .inl ⟨hcs.1, hcs.2.1, hcs.2.2⟩
  · simp at hcs
    obtain ⟨rfl, rfl, rfl⟩ := hcs
    have hb : len * Tryz.prog.bytesOf e ≤ reachBytes := by
      have := hw ((((List.range len).map D).length + ((List.range (m - len)).map fun j => D (len + j)).length) * Tryz.prog.bytesOf e) (by simp [DataW.weights, ht])
      refine Nat.le_trans (Nat.mul_le_mul_right _ ?_) this
      simp
    refine .inr ⟨a, rfl, hl, hm, hb, fun i hi => ?_⟩
    have hmi : i < m := by rw [hmm]; split <;> omega
    have hm0 : 0 < m := by omega
    obtain ⟨cs0, g0, _⟩ := hx 0 hm0
    rw [hc] at g0
    obtain ⟨_, gl, gc⟩ := World.cells?_some g0
    have hsp : a.spot = none := by
      have := gc 0 h0
      have hv : cs0[0]? = some (cs0[0]'(by omega)) := List.getElem?_eq_getElem (by omega)
      rw [hv] at this
      simp [Addr.add] at this
      exact World.cell?_spot this
    have hlt : a.block < w.heap.size := World.cells?_block (by simpa [Addr.add] using g0) h0
    have ea : a = ⟨a.block, a.off, none⟩ := by cases a; simp_all
    obtain ⟨cs, g1, g2⟩ := hx i hmi
    rw [hc] at g1
    obtain ⟨_, gl1, gc1⟩ := World.cells?_some g1
    refine ⟨ea, hlt, cs, n, _, gl1, fun j hj => ?_, g2, fun k hk => hw k ?_⟩
    · rw [← gc1 j hj, add_add]
      congr 1
      unfold Addr.add
      split
      · rw [ea]; simp; omega
      · simp
    · simp only [DataW.weights, ht, List.mem_cons, List.mem_append]
      exact .inr (.inl (weightsAll_mem7 (List.mem_map.2 ⟨i, by simpa using hi, rfl⟩) hk))
theorem trod_pair7 {P : Program} {base : Nat} {t : TypeId} {f0 f1 : Field} {fuel : Nat} {cs : List Value} {x : DataW H × List MemPlace} (ht : P.underlying t = some (.struct #[f0, f1])) (h : DataW.trod enc P w base spare held fuel t cs = some x) :
    ∃ y0 y1 n, x.1 = .agg [y0.1, y1.1] ∧ cs.length = P.cellsOf t ∧ DataW.trod enc P w base spare held n f0.type ((cs.drop f0.offset).take (P.cellsOf f0.type)) = some y0 ∧ DataW.trod enc P w base spare held n f1.type ((cs.drop f1.offset).take (P.cellsOf f1.type)) = some y1 := by
  obtain ⟨xs, n, _, rfl, hl, hlen, hf⟩ := DataW.trod_struct ht h
  match xs, hlen with
  | [y0, y1], _ => exact ⟨y0, y1, n, by simp, hl, by simpa using hf 0 f0 rfl, by simpa using hf 1 f1 rfl⟩
theorem open_rules {fuel : Nat} {ao : Option Addr} {len cap : Nat} {x : DataW H × List MemPlace} (h : DataW.trod enc Tryz.prog w 0 spare held fuel 24 [.slice ao len cap] = some x) (hw : ∀ n ∈ x.1.weights Tryz.prog 24, n ≤ reachBytes) :
    ∃ l, l.length = len ∧ ArgR w ao l cap := by
  rcases open_elems7 Tryz.underlying24 cells_rule (by omega) h hw with ⟨rfl, rfl, rfl⟩ | ⟨a, rfl, hl1, hl2, hsz, hall⟩
  · exact ⟨[], rfl, .inl rfl, Nat.le_refl _, by simp⟩
  · rw [bytes_rule] at hsz
    have each : ∀ i, i < len → ∃ x : Ru, RuAt w a.block (a.off + i * 2) x := by
      intro i hi
      obtain ⟨_, _, cs, n, y, hl, hcell, hy, hyw⟩ := hall i hi
      obtain ⟨y0, y1, n', hyd, hl', g0, g1⟩ := trod_pair7 Tryz.underlying73 hy
      match cs, hl with
      | [c0, c1], _ =>
        simp only [cells_term, List.drop_zero, List.take_succ_cons, List.take_zero, List.drop_succ_cons] at g0 g1
        have hyw0 : ∀ n ∈ y0.1.weights Tryz.prog 47, n ≤ reachBytes := fun n hn => hyw n (by
          rw [hyd]
          simp only [DataW.weights, Tryz.underlying73]
          simp [DataW.weightsEach, hn])
        have hyw1 : ∀ n ∈ y1.1.weights Tryz.prog 47, n ≤ reachBytes := fun n hn => hyw n (by
          rw [hyd]
          simp only [DataW.weights, Tryz.underlying73]
          simp [DataW.weightsEach, hn])
        obtain ⟨xo, xc, xs, e0, k0⟩ := open_ints Tryz.underlying47 g0 hyw0
        obtain ⟨yo, yc, ys, e1, k1⟩ := open_ints Tryz.underlying47 g1 hyw1
        simp only [List.cons.injEq, and_true] at e0 e1
        subst e0 e1
        exact ⟨(xs, ys), xo, xc, yo, yc, by simpa using hcell 0 (by omega), by simpa using hcell 1 (by omega), k0, k1⟩
    obtain ⟨f, hf⟩ := Classical.axiomOfChoice (r := fun (i : Fin len) (x : Ru) => RuAt w a.block (a.off + i * 2) x) (fun i => each i i.2)
    refine ⟨List.ofFn f, by simp, ?_, by simpa using hl1, by simpa [reachBytes] using hsz⟩
    by_cases h0 : len = 0
    · subst h0; exact .inl (by simp)
    · obtain ⟨ea, hlt, _⟩ := hall 0 (by omega)
      refine .inr ⟨a.block, a.off, by rw [← ea], hlt, fun i hi => ?_⟩
      have hi' : i < len := by simpa using hi
      simpa using hf ⟨i, hi'⟩
end
end Go.Proofs.YtlemcinjalepkaaGreat
/- The document's answer for rules: the walks of its smallest functions. -/
namespace Go.Proofs.YtlemcinjalepkaaGreat
set_option maxRecDepth 100000
set_option linter.unusedVariables false
open Go.RowKit
attribute [local go_sem ↓] Go.wp_at_zero Go.wp_at_succ
theorem vs_from7 {t : List Int} : ∀ {o : List Int} {v : Int}, v ∈ vs o t → v ∈ o ∨ ∃ n ∈ t, isV n = true ∧ v = -n := by
  induction t with
  | nil => intro o v h; exact .inl h
  | cons x r ih =>
    intro o v h
    rcases ih (o := vstep o x) h with q | ⟨n, h1, h2, h3⟩
    · unfold vstep at q
      split at q
      · rename_i hx
        rcases List.mem_append.1 q with q | q
        · exact .inl q
        · simp at q; exact .inr ⟨x, by simp, hx.1, q⟩
      · exact .inl q
    · exact .inr ⟨n, by simp [h1], h2, h3⟩
theorem vars_iff {t : List Int} (ht : ∀ n ∈ t, -99 ≤ n) {v : Int} : v ∈ varsL t ↔ -v ∈ t ∧ 0 < v := by
  constructor
  · intro h
    rcases vs_from7 h with q | ⟨n, h1, h2, h3⟩
    · simp at q
    · have := isV_iff.1 h2
      subst h3
      exact ⟨by simpa using h1, by omega⟩
  · rintro ⟨h1, h2⟩
    have h3 := ht _ h1
    have := vs_mem (o := []) h1 (isV_iff.2 ⟨h3, by omega⟩)
    simpa [varsL] using this
theorem free_eq {a b : List Int} (ha : ∀ n ∈ a, -99 ≤ n) (hb : ∀ n ∈ b, -99 ≤ n) : (varsL b).all (fun v => inB (varsL a) v) = b.all (fun n => !freeB a n) := by
  rw [Bool.eq_iff_iff, List.all_eq_true, List.all_eq_true]
  constructor
  · intro h n hn
    by_cases h0 : n < 0
    · have := h (-n) ((vars_iff hb).2 ⟨by simpa using hn, by omega⟩)
      simp only [inB, decide_eq_true_eq] at this
      have := (vars_iff ha).1 this
      simp [freeB]
      exact .inr (by simpa using this.1)
    · simp [freeB]; exact .inl (by omega)
  · intro h v hv
    obtain ⟨h1, h2⟩ := (vars_iff hb).1 hv
    have := h _ h1
    simp [freeB] at this
    simp only [inB, decide_eq_true_eq]
    refine (vars_iff ha).2 ⟨?_, h2⟩
    rcases this with q | q
    · omega
    · exact q
set_option maxHeartbeats 1000000 in
theorem rdef_any {n : Nat} {w : World} {rv : Value} {L : List Sym} (h : Rl n w rv L) (x : Int) : Calls Tryz.prog 31 #[rv, .int .i64 x] w fun e w' => e = .returned (.bool (defB L x)) ∧ w' = w := by
  have hlen := h.2.2.2
  by_cases hx : x < 0 ∨ (L.length : Int) ≤ x
  · have H : Hid (defB L x = false) := defB_no hx
    obtain ⟨ro, rc, rfl⟩ := row_shape h.1
    rcases hx with hx | hx
    · have hx' : ¬ (0 : Int) ≤ x := by omega
      go_enter Tryz.func31, Tryz.ntmps31
      go_wp2
      go_ret
      exact ⟨by rw [H.out]; rfl, rfl⟩
    · have hx' : (0 : Int) ≤ x := by omega
      have hx'' : ¬ x < (L.length : Int) := by omega
      go_enter Tryz.func31, Tryz.ntmps31
      go_wp2
      go_ret
      exact ⟨by rw [H.out]; rfl, rfl⟩
  · obtain ⟨i, rfl⟩ : ∃ i : Nat, x = (i : Int) := ⟨x.toNat, by omega⟩
    have hi : i < L.length := by omega
    have H : Hid (defB L (i : Int) = L[i].df) := defB_at hi
    rcases h.1.2 with ⟨_, h0⟩ | ⟨g, cap, cur, rfl, _, hg, _⟩
    · omega
    · have hc := h.1.cells (g := g) rfl _ _ (symCells_at hi).2.2
      rw [addr_add, Nat.zero_add] at hc
      have i1 : (0 : Int) ≤ (i : Int) := by omega
      have i2 : (i : Int) < (L.length : Int) := by omega
      clear h hg
      go_enter Tryz.func31, Tryz.ntmps31
      go_wp2
      go_ret
      exact ⟨by rw [H.out]; rfl, rfl⟩
set_option maxHeartbeats 2000000 in
theorem rlinear_any {w : World} {ao : Option Addr} {ac : Nat} {t : List Int} (ht : IntsAt w ao t) (hm : t.length ≤ 2000) :
    Calls Tryz.prog 125 #[.slice ao t.length ac] w fun e w' => e = .returned (.bool (decide (negN t = (varsL t).length))) ∧ Same0 w w' := by
  have CV := rvars_any (cap := ac) ht (by omega)
  have hvl : (varsL t).length ≤ t.length := by have := vs_len [] t; simpa [varsL] using this
  have E : Hid (∀ q : Bool, (q = true ↔ negN t = (varsL t).length) → q = decide (negN t = (varsL t).length)) := fun q h => by cases q <;> simp_all
  go_enter Tryz.func125, Tryz.ntmps125
  go_wp2
  go_loop [3, 4] (fun s i => ∃ k : Nat, k ≤ t.length ∧ i = .int .i64 (k : Int) ∧ s = .int .i64 ((negN (t.take k) : Nat) : Int)) (fun _ i => t.length - (intOf i).toNat)
  case atStart => exact ⟨0, Nat.zero_le _, rfl, rfl⟩
  case round =>
    obtain ⟨k, hk, rfl, rfl⟩ := hrel
    have b0 := negN_le (t.take k)
    have b1 : negN (t.take k) ≤ 2000 := by rw [List.length_take] at b0; omega
    clear b0
    by_cases hlt : k < t.length
    · obtain ⟨tb, off', rfl, _, hcell⟩ := ht.get hlt
      have i1 : (0 : Int) ≤ (k : Int) := by omega
      have i2 : (k : Int) < (t.length : Int) := by omega
      have N : Hid (negN (t.take (k + 1)) = negN (t.take k) + if t[k] < 0 then 1 else 0) := negN_take hlt
      generalize negN (t.take k) = m at *
      by_cases hneg : t[k] < 0
      · go_wp2
        exact ⟨⟨k + 1, by omega, by go_num, by rw [N.out, if_pos hneg]; go_num⟩, by simp [intOf]; omega⟩
      · go_wp2
        exact ⟨⟨k + 1, by omega, by go_num, by rw [N.out, if_neg hneg]; rfl⟩, by simp [intOf]; omega⟩
    · obtain rfl : k = t.length := by omega
      rw [List.take_length] at b1 ⊢
      go_wp2_with (first | (go_at_call 145; refine CV.mono ?_; rintro e w2 ⟨v, rfl, hr, hk2⟩; obtain ⟨vo, vc, rfl⟩ := row_shape hr))
      go_ret
      exact ⟨ret_bool (E.out _ (by simp; try omega)), hk2⟩
set_option maxHeartbeats 2000000 in
theorem rbelow_any {n : Nat} {w : World} {rv : Value} {L : List Sym} (h : Rl n w rv L) {ao : Option Addr} {ac : Nat} {t : List Int} (ht : IntsAt w ao t) (hm : t.length ≤ 2000) :
    Calls Tryz.prog 126 #[rv, .slice ao t.length ac] w fun e w' => e = .returned (.bool (t.tail.all (fun n => !defB L n))) ∧ w' = w := by
  have CD := fun x => rdef_any h x
  obtain ⟨ro, rc, rfl⟩ := row_shape h.1
  go_enter Tryz.func126, Tryz.ntmps126
  go_wp2
  go_loop [5] (fun i => ∃ k : Nat, 1 ≤ k ∧ i = .int .i64 (k : Int) ∧ (k ≤ t.length ∨ k = 1) ∧ Hid ((t.tail.take (k - 1)).all (fun n => !defB L n) = true)) (fun i => t.length + 1 - (intOf i).toNat)
  case atStart => exact ⟨1, by omega, rfl, .inr rfl, by show _ = _; simp⟩
  case round =>
    obtain ⟨k, hk1, rfl, hk2, ha⟩ := hrel
    by_cases hlt : k < t.length
    · obtain ⟨tb, off', rfl, _, hcell⟩ := ht.get hlt
      have i1 : (0 : Int) ≤ (k : Int) := by omega
      have i2 : (k : Int) < (t.length : Int) := by omega
      have C := CD t[k]
      have e0 : t.tail[k - 1]? = some t[k] := by
        rw [List.getElem?_tail]
        have : k - 1 + 1 = k := by omega
        rw [this, List.getElem?_eq_getElem hlt]
      cases hq : defB L t[k] with
      | true =>
        have H : Hid (t.tail.all (fun n => !defB L n) = false) := by
          show _ = _
          rw [List.all_eq_false]
          exact ⟨t[k], List.mem_of_getElem? e0, by simp [hq]⟩
        rw [hq] at C
        clear hq ha e0
        go_wp2_with (first | (go_at_call 31; refine C.mono ?_; rintro e w2 ⟨rfl, rfl⟩))
        go_ret
        exact ⟨by rw [H.out]; rfl, rfl⟩
      | false =>
        have H : Hid ((t.tail.take (k + 1 - 1)).all (fun n => !defB L n) = true) := by
          have := ha.out
          have e1 : k + 1 - 1 = (k - 1) + 1 := by omega
          show _ = _
          rw [e1, List.take_add_one, e0, List.all_append, this]
          simp [hq]
        rw [hq] at C
        clear hq ha e0
        go_wp2_with (first | (go_at_call 31; refine C.mono ?_; rintro e w2 ⟨rfl, rfl⟩))
        exact ⟨⟨k + 1, by omega, by go_num, .inl (by omega), H⟩, by simp [intOf]; omega⟩
    · have H : Hid (t.tail.all (fun n => !defB L n) = true) := by
        have := ha.out
        rw [List.take_of_length_le (by simp; omega)] at this
        exact this
      have hlt' : ¬ (k : Int) < (t.length : Int) := by omega
      go_wp2
      go_ret
      exact ⟨by rw [H.out]; rfl, rfl⟩
theorem rone_any (w : World) (c p : Int) : Calls Tryz.prog 95 #[.int .i64 c, .int .i64 p] w fun e w' => ∃ v, e = .returned v ∧ WrsAt w' v [(c, p)] ∧ Same0 w w' := by
  go_enter Tryz.func95, Tryz.ntmps95
  go_wp2
  go_ret
  exact ⟨_, rfl, wrs_new w [(c, p)] _ 87 rfl (fun i hi => by have hi' : i < 1 := hi; match i, hi' with | 0, _ => exact ⟨rfl, rfl⟩) 1 rfl, (Kept.refl _ w).alloc _⟩
end Go.Proofs.YtlemcinjalepkaaGreat
