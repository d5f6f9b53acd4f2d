import Derived.Test.YtbjfpfnfbgncnaaGreatDoorM21
import Derived.Test.YtbjfpfnfbgncnaaGreatDoorM22
import Derived.Test.YtbjfpfnfbgncnaaGreatDoorM24
import Derived.Test.YtbjfpfnfbgncnaaGreatDoorM16
import Derived.Test.YtbjfpfnfbgncnaaGreatDoorM17
/- The walk of the face Symbols, of a text that lex takes. -/
namespace Go.Proofs.YtbjfpfnfbgncnaaGreatDoor
open Go.RowKit
set_option linter.unusedVariables false
set_option maxRecDepth 100000
/-- Symbols in memory. -/
def SymsRow (base : Nat) (w : World) (v : Value) (L : List Sym) : Prop := w.ownsRow base 95 3 v L.length (symCells L)
/-- The answer of Symbols. -/
def ToldS (base : Nat) (w : World) (v er : Value) (R : Except (Nat × Nat) (List Sym)) : Prop := match R with
  | .ok L => SymsRow base w v L ∧ er = .nilIface
  | .error cp => v = .slice none 0 0 ∧ ErrAt base w er cp
theorem symsR_list {l : List Tok} (hE : EndsT l) : symsR l = (match listS l with
    | .error p => .error (41, p)
    | .ok (_, []) => .error (41, 0)
    | .ok (a, c :: _) => if c.kind = 13 then (if 64 < a.length then .error (42, (a[64]?.map (fun x => x.1)).getD 0) else .ok (a.map (fun x => x.2))) else .error (41, c.at')) := by
  cases l with
  | nil => exact absurd rfl hE.ne
  | cons t r =>
    by_cases h : t.kind = 13
    · simp [symsR, listS, h]
    · simp only [symsR, listS, h, if_false]
      rw [thenD_row]
      cases hW : wordF (t :: r) with
      | error p => simp [oneD, hW, thenD]
      | ok v =>
        obtain ⟨d, q⟩ := v
        have hl := wordF_lt hW
        simp only [List.length_cons] at hl
        simp only [oneD, hW]
        rw [decls_flat q.length q d [] (r.length + 1) q.length r.length (Nat.le_refl _) (by omega) (Nat.le_refl _) (by omega)]
        simp only [List.length_cons]
        cases symsF (r.length + 1) d q with
        | error p => rfl
        | ok v =>
          obtain ⟨a, q2⟩ := v
          simp only [Except.map, List.nil_append]
          cases q2 <;> rfl
set_option maxHeartbeats 4000000 in
theorem symbols_face {s : ByteArray} {w : World} {l : List Tok} (hs : s.size ≤ maxLen) (h : scanL s.data.toList = .ok l) : Calls Tryz.prog 14 #[.string s] w fun e w' => ∃ v er, e = .returned (.tuple #[v, er]) ∧ ToldS w.heap.size w' v er (symsR l) ∧ Same0 w w' := by
  have c1 := open_ok (w := w.alloc (.cells #[.nilIface] 26)) hs h
  have hE := scan_ends h
  have hlen : l.length ≤ 50000 := by have := scanL_len h; omega
  have hmf : ∀ (fn : Fn) (first cap : Array Value) (w : World), (Instr.makeFunc fn first cap).run Tryz.prog w = .ok (.func fn first cap) w := fun _ _ _ _ => rfl
  rw [symsR_list hE]
  clear h
  cases hP : listS l with
  | error p =>
    have HE : Hid (∀ {w rb tb}, RdAt w rb tb l → Calls Tryz.prog 42 #[.pointer (some ⟨rb, 0, none⟩)] w (DeclsCame rb tb w (.error p))) := fun {w rb tb} hR => by have := decls_any hE hR hlen; rw [hP] at this; exact this
    clear hP hE
    go_enter_defers Tryz.func14, Tryz.ntmps14
    go_wp2_with (first | (go_at_call 22; refine c1.mono ?_; rintro e w1 ⟨rb, tb, rfl, k1, k2, k3, k4⟩) | (go_at_call 42; refine (HE.out k1).mono ?_; rintro e w2 ⟨⟨b, rfl, g0, g1⟩, g2⟩))
    have hN : ¬ w.heap.size = rb := by simp only [World.size_alloc] at k2; omega
    have K2 := (Kept.mono k4 (fun _ _ f => f.elim)).trans g2 (S := fun i => i = rb) (fun _ _ e => e)
    obtain ⟨v1, v2, v3⟩ := errvar K2 hN
    have hb : w.heap.size < b := by have h1 := k4.size; simp only [World.size_alloc] at h1; omega
    refine leaves_cons (f := 41) (args := #[.pointer (some ⟨w.heap.size, 0, none⟩)]) (by simp) (by simp [go_sem]) ?_
    refine (catch_fault_Symbols ⟨w.heap.size, 0, none⟩ .nilIface _ _ v1 v2).mono ?_
    rintro e u' w'' ⟨rfl, rfl, rfl⟩
    simp [Leaves, settle, results, Tryz.results14, go_sem, v1]
    exact ⟨_, _, ⟨rfl, rfl⟩, ⟨rfl, fault_set g1 hb⟩, setErr (own_below K2 k2) _⟩
  | ok v =>
    obtain ⟨a, q⟩ := v
    have HE : Hid (∀ {w rb tb}, RdAt w rb tb l → Calls Tryz.prog 42 #[.pointer (some ⟨rb, 0, none⟩)] w (DeclsCame rb tb w (.ok (a, q)))) := fun {w rb tb} hR => by have := decls_any hE hR hlen; rw [hP] at this; exact this
    clear hP hE
    cases q with
    | nil =>
      go_enter_defers Tryz.func14, Tryz.ntmps14
      go_wp2_with (first | (go_at_call 22; refine c1.mono ?_; rintro e w1 ⟨rb, tb, rfl, k1, k2, k3, k4⟩) | (go_at_call 42; refine (HE.out k1).mono ?_; rintro e w2 ⟨v, rfl, _, _, _, g5, _⟩; exact absurd rfl g5.ne))
    | cons c q =>
      by_cases h13 : c.kind = 13
      · simp only [h13, if_true]
        by_cases hm : 64 < a.length
        · rw [if_pos hm, List.getElem?_eq_getElem hm]
          simp only [Option.map_some, Option.getD_some]
          go_enter_defers Tryz.func14, Tryz.ntmps14
          go_wp2_with (first | (go_at_call 22; refine c1.mono ?_; rintro e w1 ⟨rb, tb, rfl, k1, k2, k3, k4⟩) | (go_at_call 42; refine (HE.out k1).mono ?_; rintro e w2 ⟨v, rfl, g1, g2, g4, _, g6⟩; obtain ⟨ao, cap, rfl⟩ : ∃ ao cap, v = .slice ao a.length cap := row_shape g2) | (go_at_call 24; refine (end_ok g1 h13).mono ?_; rintro e w3 ⟨rfl, x4⟩; have g2' := x4.row g2 (fun j e => by have := (own_ge g2 e).1; have := k1.lt; omega)) | (go_at_call 43; refine (symbols_many g2' hm g6).mono ?_; rintro e w4 ⟨⟨b, rfl, x5, x6⟩, x7⟩))
          have hN : ¬ w.heap.size = rb := by simp only [World.size_alloc] at k2; omega
          have K2 := (((Kept.mono k4 (fun _ _ f => f.elim)).trans g4 (S := fun i => i = rb) (fun _ _ e => e)).trans x4 (fun _ _ e => e)).trans x7 (fun _ _ e => e.elim)
          obtain ⟨v1, v2, v3⟩ := errvar K2 hN
          have hb : w.heap.size < b := by have h1 := k4.size; have h2 := g4.size; have h3 := x4.size; simp only [World.size_alloc] at h1; omega
          refine leaves_cons (f := 41) (args := #[.pointer (some ⟨w.heap.size, 0, none⟩)]) (by simp) (by simp [go_sem]) ?_
          refine (catch_fault_Symbols ⟨w.heap.size, 0, none⟩ .nilIface _ _ v1 v2).mono ?_
          rintro e u' w'' ⟨rfl, rfl, rfl⟩
          simp [Leaves, settle, results, Tryz.results14, go_sem, v1]
          exact ⟨_, _, ⟨rfl, rfl⟩, ⟨rfl, fault_set x6 hb⟩, setErr (own_below K2 k2) _⟩
        · rw [if_neg hm]
          go_enter_defers Tryz.func14, Tryz.ntmps14
          go_wp2_with (first | (go_at_call 22; refine c1.mono ?_; rintro e w1 ⟨rb, tb, rfl, k1, k2, k3, k4⟩) | (go_at_call 42; refine (HE.out k1).mono ?_; rintro e w2 ⟨v, rfl, g1, g2, g4, _, g6⟩; obtain ⟨ao, cap, rfl⟩ : ∃ ao cap, v = .slice ao a.length cap := row_shape g2) | (go_at_call 24; refine (end_ok g1 h13).mono ?_; rintro e w3 ⟨rfl, x4⟩; have g2' := x4.row g2 (fun j e => by have := (own_ge g2 e).1; have := k1.lt; omega)) | (go_at_call 43; refine (symbols_few g2' (by omega)).mono ?_; rintro e w4 ⟨g, rfl, x5, x7⟩; have hN : ¬ w.heap.size = rb := (by simp only [World.size_alloc] at k2; omega); have K3 := (((Kept.mono k4 (fun _ _ f => f.elim)).trans g4 (S := fun i => i = rb) (fun _ _ e => e)).trans x4 (fun _ _ e => e)).trans x7 (fun _ _ e => e.elim); obtain ⟨v1, v2, v3⟩ := errvar K3 hN))
          obtain ⟨u1, u2⟩ := setTwice .nilIface v1 v2
          refine leaves_cons (f := 41) (args := #[.pointer (some ⟨w.heap.size, 0, none⟩)]) (by simp) (by simp [go_sem]) ?_
          refine (catch_idle_Symbols ⟨w.heap.size, 0, none⟩ .nilIface _ u1 u2).mono ?_
          rintro e u' w'' ⟨rfl, rfl, rfl⟩
          simp [Leaves, settle, results, Tryz.results14, go_sem, u1]
          have hK := own_below K3 k2
          have hk2 := Kept.setCell (p := ⟨w.heap.size, 0, none⟩) (Kept.setCell (p := ⟨w.heap.size, 0, none⟩) (Kept.refl (fun i => i = w.heap.size) w4) (fun _ => rfl) .nilIface) (fun _ => rfl) .nilIface
          have s1 := k4.size
          have s2 := g4.size
          have s3 := x4.size
          simp only [World.size_alloc] at s1
          refine ⟨_, _, ⟨rfl, rfl⟩, ⟨?_, rfl⟩, setErr (setErr hK _) _⟩
          have := hk2.row x5 (fun j e => by have := (own_ge x5 e).1; omega)
          unfold SymsRow
          rw [show (a.map (fun x => x.2)).length = a.length by simp]
          exact row_mono this (by omega)
      · simp only [h13, if_false]
        go_enter_defers Tryz.func14, Tryz.ntmps14
        go_wp2_with (first | (go_at_call 22; refine c1.mono ?_; rintro e w1 ⟨rb, tb, rfl, k1, k2, k3, k4⟩) | (go_at_call 42; refine (HE.out k1).mono ?_; rintro e w2 ⟨v, rfl, g1, g2, g4, _, g6⟩) | (go_at_call 24; refine (end_bad g1 h13).mono ?_; rintro e w3 ⟨⟨b, rfl, x4, x5⟩, x6⟩))
        have hN : ¬ w.heap.size = rb := by simp only [World.size_alloc] at k2; omega
        have K2 := ((Kept.mono k4 (fun _ _ f => f.elim)).trans g4 (S := fun i => i = rb) (fun _ _ e => e)).trans x6 (fun _ _ e => e.elim)
        obtain ⟨v1, v2, v3⟩ := errvar K2 hN
        have hb : w.heap.size < b := by have h1 := k4.size; have h2 := g4.size; simp only [World.size_alloc] at h1; omega
        refine leaves_cons (f := 41) (args := #[.pointer (some ⟨w.heap.size, 0, none⟩)]) (by simp) (by simp [go_sem]) ?_
        refine (catch_fault_Symbols ⟨w.heap.size, 0, none⟩ .nilIface _ _ v1 v2).mono ?_
        rintro e u' w'' ⟨rfl, rfl, rfl⟩
        simp [Leaves, settle, results, Tryz.results14, go_sem, v1]
        exact ⟨_, _, ⟨rfl, rfl⟩, ⟨rfl, fault_set x5 hb⟩, setErr (own_below K2 k2) _⟩
end Go.Proofs.YtbjfpfnfbgncnaaGreatDoor
/- The walk of PrintTerm of small numbers; of the question whether two lists of symbols are the same. -/
namespace Go.Proofs.YtbjfpfnfbgncnaaGreatDoor
open Go.RowKit
set_option linter.unusedVariables false
set_option maxRecDepth 100000
theorem wterm_good (L : List Sym) (f : Nat) : WGood L f := by
  induction f with
  | zero => intro base b bs l w ao t cap x q _ _ _ _ _ h; simp [wT] at h
  | succ f ih => exact wterm_step ih
set_option maxHeartbeats 2000000 in
theorem wshort {base b : Nat} {l : List UInt8} {w : World} (h : WrB base b l w) (h0 : l ≠ []) (hl : l.length ≤ 20000) : Calls Tryz.prog 33 #[.pointer (some ⟨b, 0, none⟩)] w fun e w' => e = .returned (.tuple #[.string ⟨l.toArray⟩, .int .i64 0]) ∧ Below base w w' := by
  have c1 := wlen_any h
  have c2 := wstring_any h h0
  have hl2 : ¬ ((20000 : Int) < (l.length : Int)) := by omega
  clear h
  go_enter Tryz.func33, Tryz.ntmps33
  go_wp2_with (first | (go_at_call 66; refine c1.mono ?_; rintro e w' ⟨rfl, rfl⟩) | (go_at_call 48; refine c2.mono ?_; rintro e w' ⟨rfl, h3⟩))
  go_ret2
  exact ⟨rfl, h3⟩
theorem sg_names {n b : Nat} {w : World} {L : List Sym} (h : Sg n w b L) : ∀ s ∈ L, s.name.size ≤ 12 := by
  obtain ⟨⟨sv, mr, hA, _⟩, _⟩ := h
  exact fun s hs => nameB_size (hA.names s hs)
set_option maxHeartbeats 2000000 in
theorem printTerm_small {nb bs : Nat} {w : World} {L : List Sym} (hS : Sg nb w bs L) (hnb : nb ≤ w.heap.size) {ao : Option Addr} {cap : Nat} {t : List Int} (ht : IntsAt w ao t) (hc1 : t.length ≤ cap) (hc2 : cap ≤ maxLen) (hck : checkE L t = 0) {f : Nat} {x : List UInt8} {q : List Int} (hx : wT L f t = some (x, q)) (hx0 : x ≠ []) (htl : t.length ≤ 900) :
    Calls Tryz.prog 8 #[.pointer (some ⟨bs, 0, none⟩), .slice ao t.length cap] w fun e w' => e = .returned (.tuple #[.string ⟨x.toArray⟩, .int .i64 0]) ∧ Same0 w w' := by
  have cC := check_any (cap := cap) hS ht (by unfold maxLen at hc2 ⊢; omega)
  rw [hck] at cC
  have cT : Hid (∀ w1, Same0 w w1 → Calls Tryz.prog 32 #[.pointer (some ⟨w1.heap.size, 0, none⟩), .pointer (some ⟨bs, 0, none⟩), .slice ao t.length cap] (w1.alloc (.cells #[.pointer none, .slice none 0 0] 77)) fun e w' => ∃ ao' cap', e = .returned (.slice ao' q.length cap') ∧ WrB w1.heap.size w1.heap.size x w' ∧ Same0 w1 w' ∧ x.length ≤ 20000) := by
    intro w1 k
    have k0 : Same0 w1 (w1.alloc (.cells #[.pointer none, .slice none 0 0] 77)) := Kept.alloc (Kept.refl _ w1) _
    have hW : WrB w1.heap.size w1.heap.size [] (w1.alloc (.cells #[.pointer none, .slice none 0 0] 77)) := .inl ⟨Nat.le_refl _, .slice none 0 0, heap_alloc_new w1 _, ⟨rfl, .inl ⟨rfl, rfl⟩⟩, by simp [Value.ownBlock]⟩
    have hsz := k.size
    have hS1 : Sg w1.heap.size (w1.alloc (.cells #[.pointer none, .slice none 0 0] 77)) bs L := by
      obtain ⟨⟨sv, mr, h1, h2⟩, h3⟩ := (hS.same k).same k0
      exact ⟨⟨sv, mr, h1, fun j e => by have := h2 j e; omega⟩, h3⟩
    have hT : TmIn w1.heap.size (w1.alloc (.cells #[.pointer none, .slice none 0 0] 77)) ao t := by
      refine ⟨(ht.same k).same k0, fun a e => ?_⟩
      rcases ht with h | ⟨b, off, rfl, hlt, _⟩
      · subst h
        cases f <;> simp [wT] at hx
      · cases e; show b < w1.heap.size; omega
    refine (wterm_good L f w1.heap.size w1.heap.size bs [] _ ao t cap x q hW hS1 hT hc1 hc2 hx (by simp; omega) k0.size (sg_names hS)).mono ?_
    rintro e w' ⟨ao', cap', rfl, _, _, _, g1, g2, g3⟩
    refine ⟨ao', cap', rfl, by simpa using g1, ?_, by omega⟩
    have := (Kept.mono k0 (fun _ _ f => f.elim)).trans (S := fun i => w1.heap.size ≤ i) g2 (fun _ _ e => e.1)
    exact ⟨this.os, this.tape, this.output, this.size, fun j hj _ => this.block j hj (by omega)⟩
  clear hS ht hck hx
  go_enter Tryz.func8, Tryz.ntmps8
  go_wp2_with (first | (go_at_call 31; refine cC.mono ?_; rintro e w1 ⟨rfl, k1⟩) | (go_at_call 32; refine (cT.out _ k1).mono ?_; rintro e w2 ⟨ao', cap', rfl, g1, g2, g3⟩) | (go_at_call 33; refine (wshort g1 hx0 g3).mono ?_; rintro e w3 ⟨rfl, g4⟩))
  go_ret2
  have ka := k1.trans' g2
  have hsz := k1.size
  exact ⟨rfl, g4.os.trans ka.os, g4.tape.trans ka.tape, g4.output.trans ka.output, Nat.le_trans ka.size g4.size, fun j hj _ => (g4.block j (by omega)).trans (ka.block j hj (fun f => f))⟩
set_option maxHeartbeats 2000000 in
theorem samesyms {w : World} {b1 b2 : Nat} {va vb : Value} {l : List Sym} (ha : w.ownsRow b1 95 3 va l.length (symCells l)) (hb : w.ownsRow b2 95 3 vb l.length (symCells l)) (hl : l.length ≤ 100000) :
    Calls Tryz.prog 17 #[va, vb] w fun e w' => e = .returned (.bool true) ∧ ∃ m, w' = w.drewN m := by
  obtain ⟨ao, ac, rfl⟩ := row_shape ha
  obtain ⟨bo, bc, rfl⟩ := row_shape hb
  have hsl := symCells_length l
  go_enter Tryz.func17, Tryz.ntmps17
  go_wp2
  go_loopw [5] (fun i wr => ∃ k m : Nat, k ≤ l.length ∧ i = .int .i64 (k : Int) ∧ wr = w.drewN m) (fun i _ => l.length - (intOf i).toNat)
  case atStart => exact ⟨0, 0, Nat.zero_le _, rfl, rfl⟩
  case round =>
    obtain ⟨k, m, hk, rfl, rfl⟩ := hrel
    by_cases hlt : k < l.length
    · obtain ⟨g, cap', hv, _, _⟩ := ha.form (by omega)
      obtain ⟨rfl, _, rfl⟩ : ao = some ⟨g, 0, none⟩ ∧ l.length = l.length ∧ ac = cap' := by simpa using hv
      obtain ⟨h, cap2, hv2, _, _⟩ := hb.form (by omega)
      obtain ⟨rfl, _, rfl⟩ : bo = some ⟨h, 0, none⟩ ∧ l.length = l.length ∧ bc = cap2 := by simpa using hv2
      obtain ⟨e0, e1, e2⟩ := symCells_at hlt
      have x0 := ha.cellAt (k * 3) (by omega)
      have x1 := ha.cellAt (k * 3 + 1) (by omega)
      have x2 := ha.cellAt (k * 3 + 2) (by omega)
      have y0 := hb.cellAt (k * 3) (by omega)
      have y1 := hb.cellAt (k * 3 + 1) (by omega)
      have y2 := hb.cellAt (k * 3 + 2) (by omega)
      rw [e0] at x0 y0; rw [e1] at x1 y1; rw [e2] at x2 y2
      have i1 : (0 : Int) ≤ (k : Int) := by omega
      have i2 : (k : Int) < (l.length : Int) := by omega
      clear ha hb hv hv2 e0 e1 e2
      go_wp2
      go_quiet (fail)
      go_wp2
      exact ⟨⟨k + 1, m + nq, by omega, by go_num, rfl⟩, by simp [intOf]; omega⟩
    · have i2 : ¬ (k : Int) < (l.length : Int) := by omega
      go_wp2
      go_ret
      exact ⟨rfl, m, rfl⟩
end Go.Proofs.YtbjfpfnfbgncnaaGreatDoor
