import Derived.Test.YthamjjhioafkjaaGreatGCodeViews24
import Derived.Test.YthamjjhioafkjaaGreatGCodeViews16
import Derived.Test.YthamjjhioafkjaaGreatGCodeViews01
import Derived.Test.YthamjjhioafkjaaGreatGCodeViews11
namespace Go.Proofs.YthamjjhioafkjaaGreat
set_option maxRecDepth 100000
set_option linter.unusedVariables false
open Go.RowKit
attribute [local go_sem ↓] Go.wp_at_zero Go.wp_at_succ
def StoredR (L : List Sym) : List Ru → List Ru → List Ru → Prop
  | [], R, R' => R' = R
  | x :: r, R, R' => (Ans L R [x] [] ∧ StoredR L r (R ++ [x]) R') ∨ (¬ Ans L R [x] [] ∧ StoredR L r R R')
theorem StoredR.snoc {L : List Sym} {x : Ru} : ∀ {l R R1 R2 : List Ru},StoredR L l R R1 → (Ans L R1 [x] [] ∧ R2 = R1 ++ [x]) ∨ (¬ Ans L R1 [x] [] ∧ R2 = R1) → StoredR L (l ++ [x]) R R2
  | [], R, R1, R2, h, k => by
    have h : R1 = R := h
    subst h
    rcases k with ⟨a, b⟩ | ⟨a, b⟩
    · exact .inl ⟨a, b⟩
    · exact .inr ⟨a, b⟩
  | y :: r, R, R1, R2, h, k => by
    rcases h with ⟨a, b⟩ | ⟨a, b⟩
    · exact .inl ⟨a, b.snoc k⟩
    · exact .inr ⟨a, b.snoc k⟩
def FarB (w : World) (q : Nat) : Prop := (∃ c, w.heap[q]? = some (.cells c 165 (0, 0))) ∨ (∃ c, w.heap[q]? = some (.cells c 118 (0, 0))) ∨ ∃ c, w.heap[q]? = some (.cells c 54 (0, 0))
theorem FarB.no_int {w : World} {q : Nat} (h : FarB w q) : ∀ cur,w.heap[q]? ≠ some (.cells cur 3 (0,0)) := by
  intro cur e
  rcases h with ⟨c, h⟩ | ⟨c, h⟩ | ⟨c, h⟩ <;> (rw [h] at e; cases e)
theorem FarB.no_sym {w : World} {q : Nat} (h : FarB w q) : ∀ cur,w.heap[q]? ≠ some (.cells cur 82 (0,0)) := by
  intro cur e
  rcases h with ⟨c, h⟩ | ⟨c, h⟩ | ⟨c, h⟩ <;> (rw [h] at e; cases e)
theorem FarB.no_sig {w : World} {k b : Nat} {L : List Sym} {sv : Value} {mr : Option Nat} (h : FarB w k) (hs : SigAt w b L sv mr) : ¬ Foot b sv mr k := by
  rintro (e | e | e)
  · subst e
    have := hs.blk
    rcases h with ⟨c, h⟩ | ⟨c, h⟩ | ⟨c, h⟩ <;> (rw [h] at this; cases this)
  · obtain ⟨c', this⟩ := own_blk hs.row e
    exact h.no_sym c' this
  · subst e
    obtain ⟨n, D, hm, _⟩ := hs.map
    obtain ⟨es, clock, this, _⟩ := hm
    rcases h with ⟨c, h⟩ | ⟨c, h⟩ | ⟨c, h⟩ <;> (rw [h] at this; cases this)
theorem Sg.keptF {n b : Nat} {w w' : World} {L : List Sym} {S : Nat → Prop} (h : Sg n w b L) (hk : Kept S w w') (hS : ∀ k,S k → FarB w k) : Sg n w' b L := by
  obtain ⟨⟨sv, mr, h1, h2⟩, h3⟩ := h
  exact ⟨⟨sv, mr, h1.kept hk (fun k e s => (hS k s).no_sig h1 e), h2⟩, h3⟩
theorem StAt.keptF {w w' : World} {b bs : Nat} {L : List Sym} {R : List Ru} {lv : Value} {vs : List Value} {S : Nat → Prop} (h : StAt w b bs L R lv vs) (hk : Kept S w w') (hS : ∀ k,S k → FarB w k) (hb : ¬ S b) (hr : ∀ q,lv.ownBlock = some q → ¬ S q) : StAt w' b bs L R lv vs :=
  ⟨hk.at h.blk hb, sg_up (h.sig.keptF hk hS) hk.size, hk.row h.row (fun q e s => hr q e s), h.own.kept hk (fun k s => (hS k s).no_int), h.le, h.ok⟩
theorem MO.keptF {w w' : World} {m : Nat} {ro : Option Addr} {rc : Nat} {L : List Sym} {R : List Ru} {lv : Value} {vs : List Value} {S : Nat → Prop} (h : MO w m ro rc L R lv vs) (hk : Kept S w w') (hS : ∀ k,S k → FarB w k) (hb : ¬ S m) (hr : ∀ q,lv.ownBlock = some q → ¬ S q) : MO w' m ro rc L R lv vs := by
  obtain ⟨a1, a2, a3⟩ := h.rl
  refine ⟨hk.at h.blk hb, ⟨hk.row a1 (fun q e s => ?_), fun q e => Nat.lt_of_lt_of_le (a2 q e) hk.size, a3⟩, hk.row h.row (fun q e s => hr q e s), h.own.kept hk (fun k s => (hS k s).no_int), h.le, h.ok⟩
  obtain ⟨cu, hc⟩ := own_blk a1 e
  exact (hS q s).no_sym cu hc
structure Twin (w0 w : World) (L : List Sym) (R : List Ru) (bs b m : Nat) (ro : Option Addr) (rc : Nat) (lv : Value) (vs : List Value) (mv : Value) (ms : List Value) : Prop where
  st : StAt w b bs L R lv vs
  mo : MO w m ro rc L R mv ms
  good : GoodR L R
  b0 : w0.heap.size ≤ b
  m0 : w0.heap.size ≤ m
  l0 : ∀ q, lv.ownBlock = some q → w0.heap.size ≤ q
  v0 : ∀ q, mv.ownBlock = some q → w0.heap.size ≤ q
  apart : ∀ q, lv.ownBlock = some q → mv.ownBlock ≠ some q
  same : Same0 w0 w
theorem Twin.same' {w0 w w' : World} {L : List Sym} {R : List Ru} {bs b m : Nat} {ro : Option Addr} {rc : Nat} {lv : Value} {vs : List Value} {mv : Value} {ms : List Value} (h : Twin w0 w L R bs b m ro rc lv vs mv ms) (hk : Same0 w w') : Twin w0 w' L R bs b m ro rc lv vs mv ms :=
  ⟨h.st.same hk, h.mo.same hk, h.good, h.b0, h.m0, h.l0, h.v0, h.apart, h.same.trans' hk⟩
theorem Twin.bm {w0 w : World} {L : List Sym} {R : List Ru} {bs b m : Nat} {ro : Option Addr} {rc : Nat} {lv : Value} {vs : List Value} {mv : Value} {ms : List Value} (h : Twin w0 w L R bs b m ro rc lv vs mv ms) : b ≠ m ∧ lv.ownBlock ≠ some m ∧ mv.ownBlock ≠ some b := by
  refine ⟨fun e => ?_, fun e => ?_, fun e => ?_⟩
  · subst e; have := h.st.blk; rw [h.mo.blk] at this; cases this
  · obtain ⟨c, hc⟩ := own_blk h.st.row e; rw [h.mo.blk] at hc; cases hc
  · obtain ⟨c, hc⟩ := own_blk h.mo.row e; rw [h.st.blk] at hc; cases hc
theorem Twin.more {w0 w w1 w2 : World} {L : List Sym} {R : List Ru} {bs b m : Nat} {ro : Option Addr} {rc : Nat} {lv : Value} {vs : List Value} {mv : Value} {ms : List Value} (h : Twin w0 w L R bs b m ro rc lv vs mv ms) {l : List Ru} (ha : Ans L R l []) {lv' : Value} {vs' : List Value} (s1 : StAt w1 b bs L (R ++ l) lv' vs') (k1 : Kept (StoB w b lv) w w1) (o1 : ∀ k,lv'.ownBlock = some k → lv.ownBlock = some k ∨ w.heap.size ≤ k) :
    MO w1 m ro rc L R mv ms ∧ Same0 w0 w1 ∧ ∀ (mv' : Value) (ms' : List Value), MO w2 m ro rc L (R ++ l) mv' ms' → (∀ q, mv'.ownBlock = some q → mv.ownBlock = some q ∨ w1.heap.size ≤ q) → Kept (fun q => q = m ∨ mv.ownBlock = some q) w1 w2 → Twin w0 w2 L (R ++ l) bs b m ro rc lv' vs' mv' ms' := by
  obtain ⟨e1, e2, e3⟩ := h.bm
  have F1 : ∀ k, StoB w b lv k → FarB w k := fun k e => by
    rcases e with e | e
    · subst e; exact .inl ⟨_, h.st.blk⟩
    · exact .inr (.inl (own_blk h.st.row e))
  have hmo : MO w1 m ro rc L R mv ms := h.mo.keptF k1 F1 (fun e => by
    rcases e with e | e
    · exact e1 e.symm
    · exact e2 e) (fun q e s => by
    rcases s with s | s
    · subst s; exact e3 e
    · exact h.apart q s e)
  have hs1 : Same0 w0 w1 := Kept.trans h.same k1 (fun i hi e => by
    rcases e with e | e
    · have := h.b0; omega
    · have := h.l0 i e; omega)
  refine ⟨hmo, hs1, fun mv' ms' hm2 ho2 k2 => ?_⟩
  have F2 : ∀ k, (k = m ∨ mv.ownBlock = some k) → FarB w1 k := fun k e => by
    rcases e with e | e
    · subst e; exact .inr (.inr ⟨_, hmo.blk⟩)
    · exact .inr (.inl (own_blk hmo.row e))
  have mlt : ∀ q, mv.ownBlock = some q → q < w.heap.size := fun q e => by
    obtain ⟨c, hc⟩ := own_blk h.mo.row e; exact lt_of_at hc
  have llt : ∀ q, lv'.ownBlock = some q → q < w1.heap.size := fun q e => by
    obtain ⟨c, hc⟩ := own_blk s1.row e; exact lt_of_at hc
  have ap1 : ∀ q, lv'.ownBlock = some q → mv.ownBlock ≠ some q := fun q e f => by
    rcases o1 q e with g | g
    · exact h.apart q g f
    · have := mlt q f; omega
  refine ⟨s1.keptF k2 F2 (fun e => by
    rcases e with e | e
    · exact e1 e
    · exact e3 e) (fun q e s => by
    rcases s with s | s
    · subst s
      obtain ⟨c, hc⟩ := own_blk s1.row e; rw [hmo.blk] at hc; cases hc
    · exact ap1 q e s), hm2, h.good.add ha, h.b0, h.m0, fun q e => ?_, fun q e => ?_, fun q e f => ?_, Kept.trans hs1 k2 (fun i hi e => by
    rcases e with e | e
    · have := h.m0; omega
    · have := h.v0 i e; omega)⟩
  · rcases o1 q e with g | g
    · exact h.l0 q g
    · have := h.same.size; omega
  · rcases ho2 q e with g | g
    · exact h.v0 q g
    · have := hs1.size; omega
  · rcases ho2 q f with g | g
    · exact ap1 q e g
    · have := llt q e; omega
theorem sg_nil8 (b : Nat) (w : World) : (binOp .eql 38 (.pointer (some ⟨b,0,none⟩)) (.pointer none)).run Tryz.prog w = .ok (.bool false) w := by kernel_rfl
theorem st_nil8 (b : Nat) (w : World) : (binOp .eql 39 (.pointer (some ⟨b,0,none⟩)) (.pointer none)).run Tryz.prog w = .ok (.bool false) w := by kernel_rfl
def StoPost (L : List Sym) (l : List Ru) (w : World) (e : Ending) (w' : World) : Prop :=
  ∃ bs b m ro rc lv vs mv ms R, e = .returned (.tuple #[.pointer (some ⟨bs, 0, none⟩), .pointer (some ⟨b, 0, none⟩), .pointer (some ⟨m, 0, none⟩)]) ∧ Twin w w' L R bs b m ro rc lv vs mv ms ∧ StoredR L l [] R
theorem rsat_part {w : World} {lb loff : Nat} {l : List Ru} (h : RsAt w (some ⟨lb,loff,none⟩) l) {j : Nat} (hj : j < l.length) : RsAt w (some ⟨lb,loff + j * 2,none⟩) [l[j]] := by
  obtain ⟨b, off, e, hb, hc⟩ := h.get hj
  cases e
  refine .inr ⟨lb, loff + j * 2, rfl, hb, fun i hi => ?_⟩
  obtain rfl : i = 0 := by simp at hi; omega
  simpa using hc
theorem twin_new {w0 w2 : World} {L : List Sym} {bs b : Nat} {rv : Value} (hs : StAt w2 b bs L [] (.slice none 0 0) []) (hr : Rl w2.heap.size w2 rv L) (hb : w0.heap.size ≤ b) (hk : Same0 w0 w2) : ∃ ro rc,rv = .slice ro L.length rc ∧ Twin w0 (w2.alloc (.cells #[rv,.slice none 0 0] 54)) L [] bs b w2.heap.size ro rc (.slice none 0 0) [] (.slice none 0 0) [] := by
  obtain ⟨ro, rc, rfl⟩ := row_shape hr.1
  have ka : Same0 w2 (w2.alloc (.cells #[.slice ro L.length rc, .slice none 0 0] 54)) := (Kept.refl _ _).alloc _
  refine ⟨ro, rc, rfl, hs.same ka, ⟨heap_alloc_new _ _, rl_up (hr.same ka) ka.size, World.ownsRow_nil _ _ _ _, ⟨rfl, fun i hi => absurd hi (by simp)⟩, by simp, fun x hx => by simp at hx⟩, GoodR.nil L, hb, hk.size, (fun q e => by cases e), (fun q e => by cases e), (fun q e => by cases e), hk.trans' ka⟩
set_option maxHeartbeats 16000000 in
theorem stored_any {w : World} {ao : Option Addr} {len cap : Nat} {xs : List Sym} (hx : SymsAt w ao len xs) (hm : len ≤ maxLen) {lo : Option Addr} {lc : Nat} {l : List Ru} (hl : RsAt w lo l) (hll : l.length ≤ 140737488355328) (hlc : l.length ≤ lc) :
    Calls Tryz.prog 14 #[.slice ao len cap,.slice lo l.length lc] w (StoPost (madeL xs) l w) := by
  have hn1 := sg_nil8
  have hn2 := st_nil8
  have CM := made_any ao len cap xs w hx hm
  have HL : Hid (∀ ww, Same0 w ww → RsAt ww lo l) := fun ww hk => hl.same hk
  generalize madeL xs = L at *
  clear hx hl hm
  go_enter Tryz.func14, Tryz.ntmps14
  go_upto_region 4 with (first | (go_at_call 22; refine CM.mono ?_; rintro e w1 ⟨bs, rv, rfl, hsg, hrl, k1⟩))
  have CN := snew_any hsg
  go_upto_region 5 with (first | (go_at_call 40; refine CN.mono ?_; rintro e w2 ⟨rfl, hst, k2⟩))
  obtain ⟨ro, rc, rfl, hT⟩ := twin_new hst (rl_up (hrl.same k2) k2.size) k1.size (k1.trans' k2)
  obtain ⟨b, hb⟩ : ∃ b, b = w1.heap.size := ⟨_, rfl⟩
  obtain ⟨m, hmm⟩ : ∃ m, m = w2.heap.size := ⟨_, rfl⟩
  have T0 : Hid (Twin w (w2.alloc (.cells #[.slice ro L.length rc, .slice none 0 0] 54)) L [] bs b m ro rc (.slice none 0 0) [] (.slice none 0 0) []) := by rw [hb, hmm]; exact hT
  have HMM : Hid (w2.heap.size = m) := hmm.symm
  rw [← hb]
  clear hT hst hrl hsg CN CM hb hmm
  go_wp2_with fail
  rw [HMM.out]
  go_loopw [11] (fun i wr => ∃ (j : Nat) (R : List Ru) (lv : Value) (vs : List Value) (mv : Value) (ms : List Value), j ≤ l.length ∧ i = .int .i64 (j : Int) ∧ Hid (Twin w wr L R bs b m ro rc lv vs mv ms) ∧ Hid (StoredR L (l.take j) [] R)) (fun i _ => l.length - (intOf i).toNat)
  case atStart => exact ⟨0, [], _, _, _, _, Nat.zero_le _, rfl, T0, rfl⟩
  case round =>
    clear T0 k1 k2 HMM
    obtain ⟨j, R, lv, vs, mv, ms, hj, rfl, hT, hR⟩ := hrel
    by_cases hlt : j < l.length
    · obtain ⟨lb, loff, rfl, _, _⟩ := (HL.out wr hT.out.same).get hlt
      have hj1 : IntKind.i64.wrap ((j : Int) + 1) = (j : Int) + 1 := iwrap (by omega) (by omega)
      have i1 : (0 : Int) ≤ (j : Int) := by omega
      have i2 : (j : Int) + 1 ≤ (lc : Int) := by omega
      have i3 : (j : Int) ≤ (j : Int) + 1 := by omega
      have hcj : ¬ lc = j := by omega
      have CA := add_rules (l := [l[j]]) (lc := lc - j) hT.out.st (rsat_part (HL.out wr hT.out.same) hlt) (by simp) (by simp; omega)
      have CAH : Hid (Calls Tryz.prog 41 #[.pointer (some ⟨b, 0, none⟩), .slice (some ⟨lb, loff + j * 2, none⟩) 1 (lc - j)] wr (AddPost L R [l[j]] b bs lv wr)) := CA
      have hsn : Hid (l.take (j + 1) = l.take j ++ [l[j]]) := by show _ = _; rw [List.take_add_one, List.getElem?_eq_getElem hlt]; rfl
      by_cases hA : Ans L R [l[j]] []
      · have hfit := hA.fit hT.out.st.le
        have hs2 : Hid (StoredR L (l.take (j + 1)) [] (R ++ [l[j]])) := by show StoredR _ _ _ _; rw [hsn.out]; exact hR.out.snoc (.inl ⟨hA, rfl⟩)
        have CA2 : Hid (Calls Tryz.prog 41 #[.pointer (some ⟨b, 0, none⟩), .slice (some ⟨lb, loff + j * 2, none⟩) 1 (lc - j)] wr fun e w1 => ∃ lv' vs', e = .returned .nilIface ∧ Hid (StAt w1 b bs L (R ++ [l[j]]) lv' vs' ∧ Kept (StoB wr b lv) wr w1 ∧ ∀ k, lv'.ownBlock = some k → lv.ownBlock = some k ∨ wr.heap.size ≤ k)) := CAH.out.mono (fun e w1 ⟨ws, v, e1, ha, hv, _, _, hy⟩ => by
          obtain rfl := ha.uniq hA
          obtain rfl : v = .nilIface := hv
          obtain ⟨lv', vs', a1, a2, a3⟩ := hy rfl
          exact ⟨lv', vs', e1, a1, a2, a3⟩)
        have CB : Hid (∀ w1 lv' vs', StAt w1 b bs L (R ++ [l[j]]) lv' vs' ∧ Kept (StoB wr b lv) wr w1 ∧ (∀ k, lv'.ownBlock = some k → lv.ownBlock = some k ∨ wr.heap.size ≤ k) → Calls Tryz.prog 42 #[.pointer (some ⟨m, 0, none⟩), .slice (some ⟨lb, loff + j * 2, none⟩) 1 (lc - j)] w1 fun e w2 => ∃ mv' ms', e = .returned (.slice none 0 0) ∧ Hid (Twin w w2 L (R ++ [l[j]]) bs b m ro rc lv' vs' mv' ms')) := fun w1 lv' vs' ⟨a1, a2, a3⟩ => by
          obtain ⟨hmo, hs1, hmore⟩ := hT.out.more (w2 := w1) hA a1 a2 a3
          refine (radd_yes (l := [l[j]]) (lc := lc - j) hmo (rsat_part (HL.out w1 hs1) hlt) (by simp) (fun e => by cases e) hA hfit.2 (by simpa using hfit.1) (fun ww hk => rsat_part (HL.out ww (Kept.trans hs1 hk (fun i hi e => by
            rcases e with e | e
            · have := hT.out.m0; omega
            · have := hT.out.v0 i e; omega))) hlt)).mono ?_
          rintro e w2 ⟨mv', ms', rfl, m1, m2, m3⟩
          obtain ⟨_, _, hmore2⟩ := hT.out.more (w2 := w2) hA a1 a2 a3
          exact ⟨mv', ms', rfl, hmore2 mv' ms' m1 m2 m3⟩
        have CS := fun ww => same_flt (w := ww) (er := .nilIface) (lv := .slice none 0 0) (ws := []) rfl ⟨none, 0, rfl, .inl rfl⟩ (by simp)
        have CSH : Hid (∀ ww, Calls Tryz.prog 19 #[.nilIface, .slice none 0 0] ww fun e w' => e = .returned (.bool true) ∧ Same0 ww w') := CS
        have D1 := CA2.out
        clear CA CAH CA2 CS hfit hT hR hsn
        go_upto_region 12 with (first | (go_at_call 41; refine D1.mono ?_; rintro e w4 ⟨lv', vs', rfl, h4⟩))
        have D2 := CB.out w4 lv' vs' h4.out
        go_upto_region 13 with (first | (go_at_call 42; refine D2.mono ?_; rintro e w5 ⟨mv', ms', rfl, h5⟩))
        have D3 := CSH.out w5
        go_wp2_with (first | (go_at_call 19; refine D3.mono ?_; rintro e w6 ⟨rfl, k6⟩))
        exact ⟨⟨j + 1, R ++ [l[j]], lv', vs', mv', ms', by omega, by go_num, h5.out.same' k6, hs2⟩, by simp [intOf]; omega⟩
      · have hs2 : Hid (StoredR L (l.take (j + 1)) [] R) := by show StoredR _ _ _ _; rw [hsn.out]; exact hR.out.snoc (.inr ⟨hA, rfl⟩)
        have CA2 : Hid (Calls Tryz.prog 41 #[.pointer (some ⟨b, 0, none⟩), .slice (some ⟨lb, loff + j * 2, none⟩) 1 (lc - j)] wr fun e w1 => ∃ ws k, e = .returned (.iface 106 (.pointer (some ⟨k, 0, none⟩))) ∧ Hid (Ans L R [l[j]] ws ∧ ws ≠ [] ∧ ws.length ≤ 2 ∧ FltAt w1 ws (.iface 106 (.pointer (some ⟨k, 0, none⟩)))) ∧ Same0 wr w1) := CAH.out.mono (fun e w1 ⟨ws, v, e1, ha, hv, h2, hno, _⟩ => by
          have hne : ws ≠ [] := fun e => hA (e ▸ ha)
          rcases ha.flt hv with ⟨e, _⟩ | ⟨_, k, rfl⟩
          · exact absurd e hne
          · exact ⟨ws, k, e1, ⟨ha, hne, h2, hv⟩, hno hne⟩)
        have CB : Hid (∀ w1 ws, Same0 wr w1 → Ans L R [l[j]] ws → ws ≠ [] → Calls Tryz.prog 42 #[.pointer (some ⟨m, 0, none⟩), .slice (some ⟨lb, loff + j * 2, none⟩) 1 (lc - j)] w1 fun e w2 => ∃ v, e = .returned v ∧ Hid (WrsAt w2 v ws) ∧ Same0 w1 w2) := fun w1 ws k1 ha hne => radd7_no (l := [l[j]]) (lc := lc - j) (hT.out.same' k1).mo (rsat_part (HL.out w1 (hT.out.same' k1).same) hlt) (by simp) (fun e => by cases e) ha hne
        have HT2 : Hid (∀ ww, Same0 wr ww → Twin w ww L R bs b m ro rc lv vs mv ms) := fun ww hk => hT.out.same' hk
        have D1 := CA2.out
        clear CA CAH CA2 hT hR hsn
        go_upto_region 12 with (first | (go_at_call 41; refine D1.mono ?_; rintro e w4 ⟨ws, k, rfl, h4, k4⟩))
        obtain ⟨q1, q2, q3, q4⟩ := h4.out
        have D2 := CB.out w4 ws k4 q1 q2
        go_upto_region 13 with (first | (go_at_call 42; refine D2.mono ?_; rintro e w5 ⟨v5, rfl, h5, k5⟩))
        have D3 := same_flt (FltAt.same k5 q4) h5.out q3
        clear q1 q2 q3 q4 D1 D2
        go_wp2_with (first | (go_at_call 19; refine D3.mono ?_; rintro e w6 ⟨rfl, k6⟩))
        exact ⟨⟨j + 1, R, lv, vs, mv, ms, by omega, by go_num, HT2.out _ ((k4.trans' k5).trans' k6), hs2⟩, by simp [intOf]; omega⟩
    · obtain rfl : j = l.length := by omega
      have hR2 : Hid (StoredR L l [] R) := by have := hR.out; rw [List.take_length] at this; exact this
      clear hR
      go_wp2_with fail
      go_ret3
      exact ⟨bs, b, m, ro, rc, lv, vs, mv, ms, R, rfl, hT.out, hR2.out⟩
end Go.Proofs.YthamjjhioafkjaaGreat
namespace Go.Proofs.YthamjjhioafkjaaGreat
set_option linter.unusedVariables false
def Tr : Nat → Type
  | 0 => Empty
  | n + 1 => Int × Int × List Int × List (Int × Tr n)
abbrev Rw := Int × List Int × List Nat
def numR (x : Rw) (c : Nat) : Int := x.2.1.getD (x.2.2.getD c 0) (-1)
def conB (rows : List Rw) (c : Nat) : Bool := rows.all (fun x => decide (0 ≤ numR x c))
def partN (rows : List Rw) : Nat → Option Nat
  | 0 => none
  | k + 1 => match partN rows k with
    | some c => some c
    | none => if conB rows k then some k else none
def repl {α : Type} (l : List α) (c : Nat) (m : List α) : List α := l.take c ++ m ++ l.drop (c + 1)
def kidP (L : List Sym) (paths : List (List Int)) (c s : Nat) : List (List Int) := repl paths c ((List.range (arN L (s : Int))).map (fun (i : Nat) => paths.getD c [] ++ [(i : Int)]))
def kidX (L : List Sym) (c : Nat) (x : Rw) : Rw := (x.1, x.2.1, repl x.2.2 c (argsN L x.2.1 (x.2.2.getD c 0)))
def havR (rows : List Rw) (c : Nat) (s : Int) : List Rw := rows.filter (fun x => decide (numR x c = s))
def kidsN {α : Type} (has : Nat → Bool) (g : Nat → Except Int α) : Nat → Except Int (List (Int × α))
  | 0 => .ok []
  | k + 1 => match kidsN has g k with
    | .error e => .error e
    | .ok l => if has k then (match g k with | .error e => .error e | .ok t => .ok (l ++ [((k : Int), t)])) else .ok l
def growF (L : List Sym) : (n : Nat) → List (List Int) → List Rw → Except Int (Tr n)
  | 0, _, _ => .error 0
  | n + 1, paths, rows =>
    if rows.length = 0 then .ok (3, 0, [], [])
    else match partN rows paths.length with
      | some c => (match kidsN (fun s => decide (0 < (havR rows c (s : Int)).length)) (fun s => growF L n (kidP L paths c s) ((havR rows c (s : Int)).map (kidX L c))) L.length with
        | .error e => .error e
        | .ok l => .ok (2, 0, paths.getD c [], l))
      | none => if rows.length = 1 then .ok (1, (rows.headD (0, [], [])).1, [], []) else .error (rows.headD (0, [], [])).1
def sumN : List Nat → Nat
  | [] => 0
  | a :: l => a + sumN l
theorem sumN_append (a b : List Nat) : sumN (a ++ b) = sumN a + sumN b := by
  induction a with
  | nil => simp [sumN]
  | cons x r ih => simp [sumN, ih]; omega
def wtL (L : List Sym) (t : List Int) (ps : List Nat) : Nat := sumN (ps.map (fun p => endN L t p - p))
theorem wtL_append (L : List Sym) (t : List Int) (a b : List Nat) : wtL L t (a ++ b) = wtL L t a + wtL L t b := by simp [wtL,sumN_append]
theorem wtL_starts {L : List Sym} {t : List Int} : ∀ (k p q : Nat),Forest L t k p q → wtL L t (starts L t k p) = q - p ∧ ∀ x ∈ starts L t k p,x < t.length
  | 0, p, q, h => by
    have := h.zero
    subst this
    exact ⟨by simp [starts, wtL, sumN], by simp [starts]⟩
  | k + 1, p, q, h => by
    obtain ⟨h1, h2, h3⟩ := h.succ
    obtain ⟨a, b⟩ := wtL_starts k _ _ h3
    have hle := h3.le
    refine ⟨?_, fun x hx => ?_⟩
    · show (endN L t p - p) + wtL L t (starts L t k (endN L t p)) = _
      rw [a]; omega
    · rcases List.mem_cons.1 (show x ∈ p :: starts L t k (endN L t p) from hx) with rfl | hx
      · omega
      · exact b x hx
theorem args_wt {L : List Sym} {t : List Int} (h : IsT L t) {p : Nat} (hp : p < t.length) : wtL L t (argsN L t p) + 1 = endN L t p - p ∧ ∀ x ∈ argsN L t p,x < t.length := by
  obtain ⟨_, hk⟩ := (Forest.one h hp).kids
  rw [argsN_eq hp]
  obtain ⟨a, b⟩ := wtL_starts _ _ _ hk
  have := hk.le
  exact ⟨by omega, b⟩
structure NdOk (L : List Sym) (n : Nat) (paths : List (List Int)) (rows : List Rw) : Prop where
  pos : 0 < n
  le : rows.length ≤ 100
  few : paths.length ≤ 4000
  len : ∀ p ∈ paths, 0 < p.length ∧ p.length + n ≤ 4000
  ok : ∀ x ∈ rows, checkE L x.2.1 = 0 ∧ x.2.2.length = paths.length ∧ (∀ p ∈ x.2.2, p < x.2.1.length) ∧ wtL L x.2.1 x.2.2 < n
theorem havR_mem {rows : List Rw} {c : Nat} {s : Int} {x : Rw} (h : x ∈ havR rows c s) : x ∈ rows ∧ numR x c = s := by
  simpa [havR] using h
theorem getD_lt {α : Type} {l : List α} {c : Nat} (h : c < l.length) (d : α) : l.getD c d = l[c] := by simp [List.getD,h]
theorem repl_length {α : Type} {l : List α} {c : Nat} (h : c < l.length) (m : List α) : (repl l c m).length = l.length - 1 + m.length := by
  simp [repl]; omega
theorem wtL_repl {L : List Sym} {t : List Int} {ps : List Nat} {c : Nat} (h : c < ps.length) (m : List Nat) : wtL L t (repl ps c m) + (endN L t ps[c] - ps[c]) = wtL L t ps + wtL L t m := by
  have e : ps = ps.take c ++ [ps[c]] ++ ps.drop (c + 1) := by
    rw [List.append_assoc, List.singleton_append, List.getElem_cons_drop, List.take_append_drop]
  have e2 : wtL L t ps = wtL L t (ps.take c ++ [ps[c]] ++ ps.drop (c + 1)) := by rw [← e]
  rw [e2]
  have e3 : wtL L t [ps[c]] = endN L t ps[c] - ps[c] := by simp [wtL, sumN]
  simp only [repl, wtL_append, e3]
  omega
theorem partN_some {rows : List Rw} : ∀ {k c : Nat},partN rows k = some c → c < k ∧ conB rows c = true
  | 0, c, h => by cases h
  | k + 1, c, h => by
    unfold partN at h
    cases hk : partN rows k with
    | some c' =>
      rw [hk] at h
      cases h
      have := partN_some hk
      exact ⟨by omega, this.2⟩
    | none =>
      rw [hk] at h
      simp only at h
      split at h
      · cases h; exact ⟨by omega, by assumption⟩
      · cases h
theorem numR_eq {x : Rw} {c : Nat} (h1 : c < x.2.2.length) (h2 : x.2.2[c] < x.2.1.length) : numR x c = x.2.1[x.2.2[c]] := by
  unfold numR
  rw [getD_lt h1, getD_lt h2]
theorem NdOk.kid {L : List Sym} {n : Nat} {paths : List (List Int)} {rows : List Rw} (h : NdOk L (n + 1) paths rows) {c s : Nat} (hc : c < paths.length) (hs : s < L.length) (ha : arN L (s : Int) ≤ 6) (hne : havR rows c (s : Int) ≠ []) : NdOk L n (kidP L paths c s) ((havR rows c (s : Int)).map (kidX L c)) := by
  have key : ∀ x ∈ havR rows c (s : Int), checkE L x.2.1 = 0 ∧ (kidX L c x).2.2.length = (kidP L paths c s).length ∧ (∀ p ∈ (kidX L c x).2.2, p < x.2.1.length) ∧ wtL L x.2.1 (kidX L c x).2.2 < n := by
    intro x hx
    obtain ⟨hx1, hx2⟩ := havR_mem hx
    obtain ⟨k1, k2, k3, k4⟩ := h.ok x hx1
    have hc' : c < x.2.2.length := by omega
    have hp := k3 _ (List.getElem_mem hc')
    have hT := (checkE_zero.1 k1).2.2
    obtain ⟨a1, a2⟩ := args_wt hT hp
    rw [numR_eq hc' hp] at hx2
    have hal : (argsN L x.2.1 x.2.2[c]).length = arN L (s : Int) := by rw [argsN_eq hp, starts_length, hx2]
    refine ⟨k1, ?_, ?_, ?_⟩
    · simp only [kidX, kidP]
      rw [getD_lt hc', repl_length hc', repl_length hc, hal]
      simp; omega
    · intro p hp'
      simp only [kidX] at hp'
      rw [getD_lt hc'] at hp'
      rcases List.mem_append.1 hp' with q | q
      · rcases List.mem_append.1 q with q | q
        · exact k3 p (List.mem_of_mem_take q)
        · exact a2 p q
      · exact k3 p (List.mem_of_mem_drop q)
    · simp only [kidX]
      rw [getD_lt hc']
      have := wtL_repl (L := L) (t := x.2.1) hc' (argsN L x.2.1 x.2.2[c])
      omega
  obtain ⟨x0, hx0⟩ := List.exists_mem_of_ne_nil _ hne
  refine ⟨?_, ?_, ?_, ?_, ?_⟩
  · have := (key x0 hx0).2.2.2; omega
  · rw [List.length_map]
    exact Nat.le_trans (List.length_filter_le _ _) h.le
  · obtain ⟨k1, k2, k3, k4⟩ := key x0 hx0
    have hT := (checkE_zero.1 k1)
    have hb : ∀ (ps : List Nat), (∀ p ∈ ps, p < x0.2.1.length) → ps.length ≤ wtL L x0.2.1 ps := by
      intro ps
      induction ps with
      | nil => simp
      | cons p r ih =>
        intro hp
        have := ih (fun q hq => hp q (List.mem_cons_of_mem _ hq))
        have e := endN_le hT.2.2 (hp p (List.mem_cons_self ..))
        show r.length + 1 ≤ (endN L x0.2.1 p - p) + wtL L x0.2.1 r
        omega
    have hl := hb _ k3
    have hn : n ≤ 3999 := by
      have := h.len _ (List.getElem_mem hc)
      omega
    omega
  · intro p hp
    have hpc := h.len _ (List.getElem_mem hc)
    simp only [kidP, repl] at hp
    rcases List.mem_append.1 hp with q | q
    · rcases List.mem_append.1 q with q | q
      · have := h.len p (List.mem_of_mem_take q); omega
      · obtain ⟨i, _, rfl⟩ := List.mem_map.1 q
        rw [getD_lt hc]
        simp; omega
    · have := h.len p (List.mem_of_mem_drop q); omega
  · intro y hy
    obtain ⟨x, hx, rfl⟩ := List.mem_map.1 hy
    exact key x hx
end Go.Proofs.YthamjjhioafkjaaGreat
