import Derived.Test.YtbjfpfnfbgncnaaGreatDoorM29
import Derived.Test.YtbjfpfnfbgncnaaGreatDoorM30
import Derived.Test.YtbjfpfnfbgncnaaGreatDoorM22
import Derived.Test.YtbjfpfnfbgncnaaGreatDoorM24
/- The walk of the face Term, of a text that lex takes. -/
namespace Go.Proofs.YtbjfpfnfbgncnaaGreatDoor
open Go.RowKit
set_option linter.unusedVariables false
set_option maxRecDepth 100000
theorem EndsT.mem {ts : List Tok} (h : EndsT ts) : ∀ x ∈ ts, x.text.length ≤ 20000 := by
  induction ts with
  | nil => exact absurd rfl h.ne
  | cons t r ih =>
    intro x hx
    rcases List.mem_cons.1 hx with rfl | hx
    · exact h.1.1
    · rcases h.2 with h2 | h2
      · rw [h2.2] at hx; simp at hx
      · exact ih h2.2 x hx
def ItemsOf (ts : List Tok) (is : List Item) : Prop := ∀ x ∈ is, x.t ∈ ts ∧ (x.t.kind = 2 ∨ x.t.kind = 1)
theorem args_mem {f : Nat} (hf : ∀ ts is r, termF f ts = .ok (is, r) → ItemsOf ts is ∧ ∀ x ∈ r, x ∈ ts) (n : Nat) : ∀ ts is m r, argsF (termF f) n ts = .ok (is, m, r) → ItemsOf ts is ∧ ∀ x ∈ r, x ∈ ts := by
  induction n with
  | zero => intro ts is m r h; simp [argsF] at h
  | succ n ih =>
    intro ts is m r h
    cases hT : termF f ts with
    | error p => simp [argsF, hT] at h
    | ok v =>
      obtain ⟨js, q⟩ := v
      obtain ⟨h1, h2⟩ := hf ts js q hT
      cases q with
      | nil => simp [argsF, hT] at h; obtain ⟨rfl, _, rfl⟩ := h; exact ⟨h1, fun x hx => by simp at hx⟩
      | cons c q =>
        by_cases hc : c.kind = 6
        · simp only [argsF, hT, hc, if_true] at h
          cases hA : argsF (termF f) n q with
          | error p => rw [hA] at h; cases h
          | ok v =>
            obtain ⟨ks, m2, q2⟩ := v
            rw [hA] at h
            cases h
            obtain ⟨h3, h4⟩ := ih q ks m2 _ hA
            refine ⟨fun x hx => ?_, fun x hx => h2 x (by simp [h4 x hx])⟩
            rcases List.mem_append.1 hx with hx | hx
            · exact h1 x hx
            · exact ⟨h2 _ (by simp [(h3 x hx).1]), (h3 x hx).2⟩
        · simp only [argsF, hT, hc, if_false] at h
          cases h
          exact ⟨h1, h2⟩
theorem term_mem (f : Nat) : ∀ ts is r, termF f ts = .ok (is, r) → ItemsOf ts is ∧ ∀ x ∈ r, x ∈ ts := by
  induction f with
  | zero => intro ts is r h; simp [termF] at h
  | succ f ih =>
    intro ts is r h
    cases ts with
    | nil => simp [termF] at h
    | cons t q =>
      by_cases h2 : t.kind = 2
      · simp [termF, h2] at h
        obtain ⟨rfl, rfl⟩ := h
        exact ⟨fun x hx => by simp at hx; subst hx; exact ⟨by simp, .inl h2⟩, fun x hx => by simp [hx]⟩
      · by_cases h1 : t.kind = 1
        · cases q with
          | nil => simp [termF, h1] at h; obtain ⟨rfl, rfl⟩ := h; exact ⟨fun x hx => by simp at hx; subst hx; exact ⟨by simp, .inr h1⟩, fun x hx => by simp at hx⟩
          | cons o q =>
            by_cases h4 : o.kind = 4
            · rw [term_open h1 h4] at h
              cases hA : argsF (termF f) f q with
              | error p => rw [hA] at h; cases h
              | ok v =>
                obtain ⟨js, m, u⟩ := v
                rw [hA] at h
                obtain ⟨h5, h6⟩ := args_mem ih f q js m u hA
                cases u with
                | nil => cases h
                | cons c u =>
                  simp only [termC] at h
                  split at h
                  · cases h
                    refine ⟨fun x hx => ?_, fun x hx => ?_⟩
                    · rcases List.mem_cons.1 hx with rfl | hx
                      · exact ⟨by simp, .inr h1⟩
                      · exact ⟨by simp [(h5 x hx).1], (h5 x hx).2⟩
                    · have := h6 x (by simp [hx]); simp [this]
                  · cases h
            · rw [term_name h1 h4] at h
              cases h
              exact ⟨fun x hx => by simp at hx; subst hx; exact ⟨by simp, .inr h1⟩, fun x hx => by simp at hx ⊢; exact .inr hx⟩
        · simp only [termF] at h
          rw [if_neg h2, if_neg h1] at h
          cases h
theorem args_len {f : Nat} (hf : ∀ ts is r, termF f ts = .ok (is, r) → is.length + r.length ≤ ts.length) (n : Nat) : ∀ ts is m r, argsF (termF f) n ts = .ok (is, m, r) → is.length + r.length ≤ ts.length := by
  induction n with
  | zero => intro ts is m r h; simp [argsF] at h
  | succ n ih =>
    intro ts is m r h
    cases hT : termF f ts with
    | error p => simp [argsF, hT] at h
    | ok v =>
      obtain ⟨js, q⟩ := v
      have h1 := hf ts js q hT
      cases q with
      | nil => simp [argsF, hT] at h; obtain ⟨rfl, _, rfl⟩ := h; exact h1
      | cons c q =>
        by_cases hc : c.kind = 6
        · simp only [argsF, hT, hc, if_true] at h
          cases hA : argsF (termF f) n q with
          | error p => rw [hA] at h; cases h
          | ok v =>
            obtain ⟨ks, m2, q2⟩ := v
            rw [hA] at h
            cases h
            have h3 := ih q ks m2 _ hA
            simp at h1 ⊢; omega
        · simp only [argsF, hT, hc, if_false] at h
          cases h
          exact h1
theorem term_len {f : Nat} : ∀ {ts is r}, termF f ts = .ok (is, r) → is.length + r.length ≤ ts.length := by
  induction f with
  | zero => intro ts is r h; simp [termF] at h
  | succ f ih =>
    intro ts is r h
    cases ts with
    | nil => simp [termF] at h
    | cons t q =>
      by_cases h2 : t.kind = 2
      · simp [termF, h2] at h; obtain ⟨rfl, rfl⟩ := h; simp; omega
      · by_cases h1 : t.kind = 1
        · cases q with
          | nil => simp [termF, h1] at h; obtain ⟨rfl, rfl⟩ := h; simp
          | cons o q =>
            by_cases h4 : o.kind = 4
            · rw [term_open h1 h4] at h
              cases hA : argsF (termF f) f q with
              | error p => rw [hA] at h; cases h
              | ok v =>
                obtain ⟨js, m, u⟩ := v
                rw [hA] at h
                have h5 := args_len (fun a b c => ih (ts := a) (is := b) (r := c)) f q js m u hA
                cases u with
                | nil => cases h
                | cons c u =>
                  simp only [termC] at h
                  split at h
                  · cases h; simp at h5 ⊢; omega
                  · cases h
            · rw [term_name h1 h4] at h
              cases h
              simp; omega
        · simp only [termF] at h
          rw [if_neg h2, if_neg h1] at h
          cases h
theorem bad_found {L : List Sym} : ∀ {l : List Item}, badName L l = none → ∀ x ∈ l, x.t.kind = 1 → (findI L (txt x.t.text)).isSome = true := by
  intro l
  induction l with
  | nil => intro _ x hx; simp at hx
  | cons y l ih =>
    intro h x hx hk
    rw [badName] at h
    by_cases h1 : y.t.kind = 1
    · rw [if_pos h1] at h
      cases hf : findI L (bsOf y.t.text) with
      | none => rw [hf] at h; cases h
      | some n =>
        rw [hf] at h
        simp only at h
        split at h
        · rcases List.mem_cons.1 hx with rfl | hx
          · rw [show txt x.t.text = bsOf x.t.text from rfl, hf]; rfl
          · exact ih h x hx hk
        · cases h
    · rw [if_neg h1] at h
      rcases List.mem_cons.1 hx with rfl | hx
      · exact absurd hk h1
      · exact ih h x hx hk
/-- The answer of Term. -/
def ToldT (base : Nat) (w : World) (v er : Value) (R : Except (Nat × Nat) (List Int)) : Prop := match R with
  | .ok xs => w.ownsRow base 3 1 v xs.length (intZ xs) ∧ er = .nilIface
  | .error cp => v = .slice none 0 0 ∧ ErrAt base w er cp
set_option maxHeartbeats 8000000 in
theorem term_face {s : ByteArray} {w : World} {l : List Tok} {nb b : Nat} {L : List Sym} (hS : Sg nb w b L) (hnb : nb ≤ w.heap.size) (hs : s.size ≤ maxLen) (h : scanL s.data.toList = .ok l) : Calls Tryz.prog 6 #[.pointer (some ⟨b, 0, none⟩), .string s] w fun e w' => ∃ v er, e = .returned (.tuple #[v, er]) ∧ ToldT w.heap.size w' v er (termR L l) ∧ Same0 w w' := by
  have c1 := open_ok (w := w.alloc (.cells #[.nilIface] 26)) hs h
  have hE := scan_ends h
  have hlen : l.length ≤ 50000 := by have := scanL_len h; omega
  have hmf : ∀ (fn : Fn) (first cap : Array Value) (w : World), (Instr.makeFunc fn first cap).run Tryz.prog w = .ok (.func fn first cap) w := fun _ _ _ _ => rfl
  have hmm := @run_makeMap Tryz.prog
  have hS1 : Hid (Sg nb (w.alloc (.cells #[.nilIface] 26)) b L) := hS.same (Kept.alloc (Kept.refl _ w) _)
  obtain ⟨R, hR⟩ : ∃ R, termR L l = R := ⟨_, rfl⟩
  rw [hR]
  have HR : Hid (termR L l = R) := hR
  clear h hS hR
  cases hP : termF l.length l with
  | error p =>
    have HE : Hid (∀ {w rb tb}, RdAt w rb tb l → Calls Tryz.prog 23 #[.pointer (some ⟨rb, 0, none⟩), .slice none 0 0] w (TermCame w.heap.size rb tb w l (.slice none 0 0) [] (.error p))) := fun {w rb tb} hR => by have := term_good l.length rb tb w.heap.size l (.slice none 0 0) [] w (Nat.le_refl _) hE hR (WRow.nil _ _) (Nat.le_refl _) (by simpa using hlen) (fun k e => by simp [Value.ownBlock] at e); rw [hP] at this; exact this
    obtain rfl : R = .error (41, p) := by rw [← HR.out]; simp [termR, hP]
    clear hP hE HR
    go_enter_defers Tryz.func6, Tryz.ntmps6
    go_wp2_with (first | (go_at_call 21; refine (demand_some _ _).mono ?_; rintro e w' ⟨rfl, rfl⟩) | (go_at_call 22; refine c1.mono ?_; rintro e w1 ⟨rb, tb, rfl, k1, k2, k3, k4⟩) | (go_at_call 23; refine (HE.out k1).mono ?_; rintro e w2 ⟨⟨bb, rfl, g0, g1⟩, g2⟩))
    have hN : ¬ w.heap.size = rb := by simp only [World.size_alloc] at k2; omega
    have K2 := (Kept.mono k4 (fun _ _ f => f.elim)).trans g2 (S := fun i => i = rb) (fun _ _ e => e.elim id (fun e => by simp [Value.ownBlock] at e))
    obtain ⟨v1, v2, v3⟩ := errvar K2 hN
    have hb : w.heap.size < bb := by have h1 := k4.size; simp only [World.size_alloc] at h1; omega
    refine leaves_cons (f := 19) (args := #[.pointer (some ⟨w.heap.size, 0, none⟩)]) (by simp) (by simp [go_sem]) ?_
    refine (catch_fault_Term ⟨w.heap.size, 0, none⟩ .nilIface _ _ v1 v2).mono ?_
    rintro e u' w'' ⟨rfl, rfl, rfl⟩
    simp [Leaves, settle, results, Tryz.results6, go_sem, v1]
    exact ⟨_, _, ⟨rfl, rfl⟩, ⟨rfl, fault_set g1 hb⟩, setErr (own_below K2 k2) _⟩
  | ok v =>
    obtain ⟨is, q⟩ := v
    have HE : Hid (∀ {w rb tb}, RdAt w rb tb l → Calls Tryz.prog 23 #[.pointer (some ⟨rb, 0, none⟩), .slice none 0 0] w (TermCame w.heap.size rb tb w l (.slice none 0 0) [] (.ok (is, q)))) := fun {w rb tb} hR => by have := term_good l.length rb tb w.heap.size l (.slice none 0 0) [] w (Nat.le_refl _) hE hR (WRow.nil _ _) (Nat.le_refl _) (by simpa using hlen) (fun k e => by simp [Value.ownBlock] at e); rw [hP] at this; exact this
    have hmem := term_mem _ _ _ _ hP
    cases q with
    | nil =>
      clear hP hE HR
      go_enter_defers Tryz.func6, Tryz.ntmps6
      go_wp2_with (first | (go_at_call 21; refine (demand_some _ _).mono ?_; rintro e w' ⟨rfl, rfl⟩) | (go_at_call 22; refine c1.mono ?_; rintro e w1 ⟨rb, tb, rfl, k1, k2, k3, k4⟩) | (go_at_call 23; refine (HE.out k1).mono ?_; rintro e w2 ⟨v, rfl, _, _, _, _, g5, _⟩; exact absurd rfl g5.ne))
    | cons c q =>
      by_cases h13 : c.kind = 13
      · have hmx : ∀ x ∈ is, x.t.text.length ≤ 20000 := fun x hx => hE.mem _ (hmem.1 x hx).1
        have hisl : is.length ≤ 50000 := by have := term_len hP; omega
        cases hB : badName L is with
        | some cp =>
          obtain ⟨bc, bp⟩ := cp
          obtain rfl : R = .error (bc, bp) := by rw [← HR.out]; simp [termR, hP, h13, hB]
          clear hP hE HR
          go_enter_defers Tryz.func6, Tryz.ntmps6
          go_wp2_with (first | (go_at_call 21; refine (demand_some _ _).mono ?_; rintro e w' ⟨rfl, rfl⟩) | (go_at_call 22; refine c1.mono ?_; rintro e w1 ⟨rb, tb, rfl, k1, k2, k3, k4⟩) | (go_at_call 23; refine (HE.out k1).mono ?_; rintro e w2 ⟨v, rfl, g1, g2, g3, g4, g5, _⟩; obtain ⟨ao, cap, rfl⟩ : ∃ ao cap, v = .slice ao is.length cap := row_shape g2; rw [List.nil_append] at g2) | (go_at_call 24; refine (end_ok g1 h13).mono ?_; rintro e w3 ⟨rfl, x4⟩; have g2' := g2.kept x4 (fun j e => by have := (g3 j e).resolve_left (by simp [Value.ownBlock]); have := k1.lt; omega); have hS3 := ((hS1.out.same k4).kept g4 (fun j hj e => by simp only [World.size_alloc] at k2; rcases e with e | e <;> first | omega | simp [Value.ownBlock] at e)).kept x4 (fun j hj e => by simp only [World.size_alloc] at k2; omega)) | (go_at_call 25; refine (names_any hS3 g2' hmx hisl).mono ?_; rw [hB]; rintro e w4 ⟨⟨bb, rfl, y1, y2⟩, y3⟩))
          have hN : ¬ w.heap.size = rb := by simp only [World.size_alloc] at k2; omega
          have K2 := (((Kept.mono k4 (fun _ _ f => f.elim)).trans g4 (S := fun i => i = rb) (fun _ _ e => e.elim id (fun e => by simp [Value.ownBlock] at e))).trans x4 (fun _ _ e => e)).trans y3 (fun _ _ e => e.elim)
          obtain ⟨v1, v2, v3⟩ := errvar K2 hN
          have hb : w.heap.size < bb := by have h1 := k4.size; simp only [World.size_alloc] at h1; have h2 := g4.size; have h3 := x4.size; omega
          refine leaves_cons (f := 19) (args := #[.pointer (some ⟨w.heap.size, 0, none⟩)]) (by simp) (by simp [go_sem]) ?_
          refine (catch_fault_Term ⟨w.heap.size, 0, none⟩ .nilIface _ _ v1 v2).mono ?_
          rintro e u' w'' ⟨rfl, rfl, rfl⟩
          simp [Leaves, settle, results, Tryz.results6, go_sem, v1]
          exact ⟨_, _, ⟨rfl, rfl⟩, ⟨rfl, fault_set y2 hb⟩, setErr (own_below K2 k2) _⟩
        | none =>
          by_cases h2k : 2000 < is.length
          · obtain rfl : R = .error (45, is[0].t.at') := by rw [← HR.out]; simp [termR, hP, h13, hB, h2k]; cases is <;> simp at h2k ⊢
            clear hP hE HR
            go_enter_defers Tryz.func6, Tryz.ntmps6
            go_wp2_with (first | (go_at_call 21; refine (demand_some _ _).mono ?_; rintro e w' ⟨rfl, rfl⟩) | (go_at_call 22; refine c1.mono ?_; rintro e w1 ⟨rb, tb, rfl, k1, k2, k3, k4⟩) | (go_at_call 23; refine (HE.out k1).mono ?_; rintro e w2 ⟨v, rfl, g1, g2, g3, g4, g5, _⟩; obtain ⟨ao, cap, rfl⟩ : ∃ ao cap, v = .slice ao is.length cap := row_shape g2; rw [List.nil_append] at g2) | (go_at_call 24; refine (end_ok g1 h13).mono ?_; rintro e w3 ⟨rfl, x4⟩; have g2' := g2.kept x4 (fun j e => by have := (g3 j e).resolve_left (by simp [Value.ownBlock]); have := k1.lt; omega); have hS3 := ((hS1.out.same k4).kept g4 (fun j hj e => by simp only [World.size_alloc] at k2; rcases e with e | e <;> first | omega | simp [Value.ownBlock] at e)).kept x4 (fun j hj e => by simp only [World.size_alloc] at k2; omega)) | (go_at_call 25; refine (names_any hS3 g2' hmx hisl).mono ?_; rw [hB]; rintro e w4 ⟨rfl, y3⟩) | (go_at_call 26; refine (long_yes (g2'.same y3) h2k).mono ?_; rintro e w5 ⟨⟨bb, rfl, y4, y5⟩, y6⟩))
            have hN : ¬ w.heap.size = rb := by simp only [World.size_alloc] at k2; omega
            have K2 := ((((Kept.mono k4 (fun _ _ f => f.elim)).trans g4 (S := fun i => i = rb) (fun _ _ e => e.elim id (fun e => by simp [Value.ownBlock] at e))).trans x4 (fun _ _ e => e)).trans y3 (fun _ _ e => e.elim)).trans y6 (fun _ _ e => e.elim)
            obtain ⟨v1, v2, v3⟩ := errvar K2 hN
            have hb : w.heap.size < bb := by have h1 := k4.size; simp only [World.size_alloc] at h1; have h2 := g4.size; have h3 := x4.size; have h4 := y3.size; omega
            refine leaves_cons (f := 19) (args := #[.pointer (some ⟨w.heap.size, 0, none⟩)]) (by simp) (by simp [go_sem]) ?_
            refine (catch_fault_Term ⟨w.heap.size, 0, none⟩ .nilIface _ _ v1 v2).mono ?_
            rintro e u' w'' ⟨rfl, rfl, rfl⟩
            simp [Leaves, settle, results, Tryz.results6, go_sem, v1]
            exact ⟨_, _, ⟨rfl, rfl⟩, ⟨rfl, fault_set y5 hb⟩, setErr (own_below K2 k2) _⟩
          · have hkd : ∀ x ∈ is, x.t.text.length ≤ 20000 ∧ (x.t.kind = 2 ∨ (x.t.kind = 1 ∧ (findI L (txt x.t.text)).isSome = true)) := fun x hx => ⟨hmx x hx, (hmem.1 x hx).2.imp id (fun e => ⟨e, bad_found hB x hx e⟩)⟩
            cases hN : numF L [] is with
            | error p =>
              obtain rfl : R = .error (46, p) := by rw [← HR.out]; simp [termR, hP, h13, hB, h2k, hN]
              clear hP hE HR
              go_enter_defers Tryz.func6, Tryz.ntmps6
              go_wp2_with (first | (go_at_call 21; refine (demand_some _ _).mono ?_; rintro e w' ⟨rfl, rfl⟩) | (go_at_call 22; refine c1.mono ?_; rintro e w1 ⟨rb, tb, rfl, k1, k2, k3, k4⟩) | (go_at_call 23; refine (HE.out k1).mono ?_; rintro e w2 ⟨v, rfl, g1, g2, g3, g4, g5, _⟩; obtain ⟨ao, cap, rfl⟩ : ∃ ao cap, v = .slice ao is.length cap := row_shape g2; rw [List.nil_append] at g2) | (go_at_call 24; refine (end_ok g1 h13).mono ?_; rintro e w3 ⟨rfl, x4⟩; have g2' := g2.kept x4 (fun j e => by have := (g3 j e).resolve_left (by simp [Value.ownBlock]); have := k1.lt; omega); have hS3 := ((hS1.out.same k4).kept g4 (fun j hj e => by simp only [World.size_alloc] at k2; rcases e with e | e <;> first | omega | simp [Value.ownBlock] at e)).kept x4 (fun j hj e => by simp only [World.size_alloc] at k2; omega)) | (go_at_call 25; refine (names_any hS3 g2' hmx hisl).mono ?_; rw [hB]; rintro e w4 ⟨rfl, y3⟩) | (go_at_call 26; refine (long_no (base := 0) (by omega)).mono ?_; rintro e w5 ⟨rfl, rfl⟩) | (go_at_call 27; refine (listed_any ((hS3.same y3).same (Kept.alloc (Kept.refl _ _) _)) ((g2'.same y3).same (Kept.alloc (Kept.refl _ _) _)) (VarsAt.made _) (by have h1 := k4.size; have h2 := g4.size; have h3 := x4.size; have h4 := y3.size; simp only [World.size_alloc] at h1; omega) (fun j e => by have := ((g2'.same y3).own e).2; omega) (by simp) hkd hisl).mono ?_; rw [hN]; rintro e w6 ⟨⟨bb, rfl, y4, y5⟩, y6⟩; have y7 := y6.behind))
              have hN : ¬ w.heap.size = rb := by simp only [World.size_alloc] at k2; omega
              have K2 := ((((Kept.mono k4 (fun _ _ f => f.elim)).trans g4 (S := fun i => i = rb) (fun _ _ e => e.elim id (fun e => by simp [Value.ownBlock] at e))).trans x4 (fun _ _ e => e)).trans y3 (fun _ _ e => e.elim)).trans y7 (fun i hi e => by have h1 := k4.size; have h2 := g4.size; have h3 := x4.size; have h4 := y3.size; omega)
              obtain ⟨v1, v2, v3⟩ := errvar K2 hN
              have hb : w.heap.size < bb := by have h1 := k4.size; simp only [World.size_alloc] at h1; have h2 := g4.size; have h3 := x4.size; have h4 := y3.size; simp only [World.size_alloc] at y4; omega
              refine leaves_cons (f := 19) (args := #[.pointer (some ⟨w.heap.size, 0, none⟩)]) (by simp) (by simp [go_sem]) ?_
              refine (catch_fault_Term ⟨w.heap.size, 0, none⟩ .nilIface _ _ v1 v2).mono ?_
              rintro e u' w'' ⟨rfl, rfl, rfl⟩
              simp [Leaves, settle, results, Tryz.results6, go_sem, v1]
              exact ⟨_, _, ⟨rfl, rfl⟩, ⟨rfl, fault_set y5 hb⟩, setErr (own_below K2 k2) _⟩
            | ok v =>
              obtain ⟨xs, kn⟩ := v
              obtain rfl : R = .ok xs := by rw [← HR.out]; simp [termR, hP, h13, hB, h2k, hN]
              clear hP hE HR
              go_enter_defers Tryz.func6, Tryz.ntmps6
              go_wp2_with (first | (go_at_call 21; refine (demand_some _ _).mono ?_; rintro e w' ⟨rfl, rfl⟩) | (go_at_call 22; refine c1.mono ?_; rintro e w1 ⟨rb, tb, rfl, k1, k2, k3, k4⟩) | (go_at_call 23; refine (HE.out k1).mono ?_; rintro e w2 ⟨v, rfl, g1, g2, g3, g4, g5, _⟩; obtain ⟨ao, cap, rfl⟩ : ∃ ao cap, v = .slice ao is.length cap := row_shape g2; rw [List.nil_append] at g2) | (go_at_call 24; refine (end_ok g1 h13).mono ?_; rintro e w3 ⟨rfl, x4⟩; have g2' := g2.kept x4 (fun j e => by have := (g3 j e).resolve_left (by simp [Value.ownBlock]); have := k1.lt; omega); have hS3 := ((hS1.out.same k4).kept g4 (fun j hj e => by simp only [World.size_alloc] at k2; rcases e with e | e <;> first | omega | simp [Value.ownBlock] at e)).kept x4 (fun j hj e => by simp only [World.size_alloc] at k2; omega)) | (go_at_call 25; refine (names_any hS3 g2' hmx hisl).mono ?_; rw [hB]; rintro e w4 ⟨rfl, y3⟩) | (go_at_call 26; refine (long_no (base := 0) (by omega)).mono ?_; rintro e w5 ⟨rfl, rfl⟩) | (go_at_call 27; refine (listed_any ((hS3.same y3).same (Kept.alloc (Kept.refl _ _) _)) ((g2'.same y3).same (Kept.alloc (Kept.refl _ _) _)) (VarsAt.made _) (by have h1 := k4.size; have h2 := g4.size; have h3 := x4.size; have h4 := y3.size; simp only [World.size_alloc] at h1; omega) (fun j e => by have := ((g2'.same y3).own e).2; omega) (by simp) hkd hisl).mono ?_; rw [hN]; rintro e w6 ⟨g, rfl, y4, _, _, y5, y6⟩; have y7 := y6.behind; have hN0 : ¬ w.heap.size = rb := (by simp only [World.size_alloc] at k2; omega); have K3 := ((((Kept.mono k4 (fun _ _ f => f.elim)).trans g4 (S := fun i => i = rb) (fun _ _ e => e.elim id (fun e => by simp [Value.ownBlock] at e))).trans x4 (fun _ _ e => e)).trans y3 (fun _ _ e => e.elim)).trans y7 (fun i hi e => by have h1 := k4.size; have h2 := g4.size; have h3 := x4.size; have h4 := y3.size; omega); obtain ⟨v1, v2, v3⟩ := errvar K3 hN0))
              obtain ⟨u1, u2⟩ := setTwice .nilIface v1 v2
              refine leaves_cons (f := 19) (args := #[.pointer (some ⟨w.heap.size, 0, none⟩)]) (by simp) (by simp [go_sem]) ?_
              refine (catch_idle_Term ⟨w.heap.size, 0, none⟩ .nilIface _ u1 u2).mono ?_
              rintro e u' w'' ⟨rfl, rfl, rfl⟩
              simp [Leaves, settle, results, Tryz.results6, go_sem, u1]
              have hK := own_below K3 k2
              have hk2 := Kept.setCell (p := ⟨w.heap.size, 0, none⟩) (Kept.setCell (p := ⟨w.heap.size, 0, none⟩) (Kept.refl (fun i => i = w.heap.size) w6) (fun _ => rfl) .nilIface) (fun _ => rfl) .nilIface
              have s1 := k4.size
              have s2 := g4.size
              have s3 := x4.size
              have s4 := y3.size
              simp only [World.size_alloc] at s1
              refine ⟨_, _, ⟨rfl, rfl⟩, ⟨?_, rfl⟩, setErr (setErr hK _) _⟩
              have hrw := hk2.row y4 (fun j e => by have h1 := (own_ge y4 e).1; simp only [World.size_alloc] at h1; omega)
              rw [y5]
              exact row_mono hrw (by simp only [World.size_alloc]; omega)
      · obtain rfl : R = .error (41, c.at') := by rw [← HR.out]; simp [termR, hP, h13]
        clear hP hE HR
        go_enter_defers Tryz.func6, Tryz.ntmps6
        go_wp2_with (first | (go_at_call 21; refine (demand_some _ _).mono ?_; rintro e w' ⟨rfl, rfl⟩) | (go_at_call 22; refine c1.mono ?_; rintro e w1 ⟨rb, tb, rfl, k1, k2, k3, k4⟩) | (go_at_call 23; refine (HE.out k1).mono ?_; rintro e w2 ⟨v, rfl, g1, g2, g3, g4, g5, _⟩; obtain ⟨ao, cap, rfl⟩ : ∃ ao cap, v = .slice ao is.length cap := row_shape g2; rw [List.nil_append] at g2) | (go_at_call 24; refine (end_bad g1 h13).mono ?_; rintro e w3 ⟨⟨bb, rfl, x5, x6⟩, x7⟩))
        have hN : ¬ w.heap.size = rb := by simp only [World.size_alloc] at k2; omega
        have K2 := ((Kept.mono k4 (fun _ _ f => f.elim)).trans g4 (S := fun i => i = rb) (fun _ _ e => e.elim id (fun e => by simp [Value.ownBlock] at e))).trans x7 (fun _ _ e => e.elim)
        obtain ⟨v1, v2, v3⟩ := errvar K2 hN
        have hb : w.heap.size < bb := by have h1 := k4.size; simp only [World.size_alloc] at h1; have h2 := g4.size; omega
        refine leaves_cons (f := 19) (args := #[.pointer (some ⟨w.heap.size, 0, none⟩)]) (by simp) (by simp [go_sem]) ?_
        refine (catch_fault_Term ⟨w.heap.size, 0, none⟩ .nilIface _ _ v1 v2).mono ?_
        rintro e u' w'' ⟨rfl, rfl, rfl⟩
        simp [Leaves, settle, results, Tryz.results6, go_sem, v1]
        exact ⟨_, _, ⟨rfl, rfl⟩, ⟨rfl, fault_set x6 hb⟩, setErr (own_below K2 k2) _⟩
end Go.Proofs.YtbjfpfnfbgncnaaGreatDoor
