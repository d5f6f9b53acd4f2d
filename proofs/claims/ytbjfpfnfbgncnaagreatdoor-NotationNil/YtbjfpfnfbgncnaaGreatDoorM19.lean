import Derived.Test.YtbjfpfnfbgncnaaGreatDoorM18
import Derived.Test.YtbjfpfnfbgncnaaGreatDoorM07
import Derived.Deep.RegionLaw
/- Declarations: read off tokens, written, and read as they were; no program in sight. -/
namespace Go.Proofs.YtbjfpfnfbgncnaaGreatDoor
set_option linter.unusedVariables false
set_option linter.unusedSimpArgs false
def conW : List UInt8 := [99, 111, 110]
def funW : List UInt8 := [102, 117, 110]
def wordW (d : Bool) : List UInt8 := if d = true then funW else conW
/-- A declaration, with the place of its Name. -/
def declF (d : Bool) : List Tok → Except Nat ((Nat × Sym) × List Tok)
  | [] => .error 0
  | [n] => if n.kind = 1 then .error 0 else .error n.at'
  | [n, s] => if n.kind = 1 then (if s.kind = 9 then .error 0 else .error s.at') else .error n.at'
  | n :: s :: k :: r => if n.kind = 1 then (if s.kind = 9 then (if k.kind = 3 then .ok ((n.at', ⟨⟨n.text.toArray⟩, (valL k.text : Int), d⟩), r) else .error k.at') else .error s.at') else .error n.at'
/-- The word that an item begins with. -/
def wordF : List Tok → Except Nat (Bool × List Tok)
  | [] => .error 0
  | w :: r => if w.kind = 1 then (if w.text = conW then .ok (false, r) else if w.text = funW then .ok (true, r) else .error w.at') else .error w.at'
/-- Declarations, behind such a word. -/
def symsF : Nat → Bool → List Tok → Except Nat (List (Nat × Sym) × List Tok)
  | 0, _, _ => .error 0
  | n + 1, d, ts => match declF d ts with
    | .error p => .error p
    | .ok (x, []) => .ok ([x], [])
    | .ok (x, c :: r) => if c.kind = 6 then (symsF n d r).map (fun v => (x :: v.1, v.2))
      else if c.kind = 7 then (match wordF r with
        | .error p => .error p
        | .ok (b, q) => (symsF n b q).map (fun v => (x :: v.1, v.2)))
      else .ok ([x], c :: r)
def symsR (ts : List Tok) : Except (Nat × Nat) (List Sym) := match ts with
  | [] => .error (41, 0)
  | e :: _ => if e.kind = 13 then .ok [] else (match wordF ts with
    | .error p => .error (41, p)
    | .ok (d, q) => (match symsF ts.length d q with
      | .error p => .error (41, p)
      | .ok (_, []) => .error (41, 0)
      | .ok (l, c :: _) => if c.kind = 13 then (if 64 < l.length then .error (42, (l[64]?.map (fun x => x.1)).getD 0) else .ok (l.map (fun x => x.2))) else .error (41, c.at')))
/-! ### writing -/
def declC (x : Sym) : List (List UInt8 × Nat × List UInt8) := [([32], 1, x.name.data.toList), ([], 9, [47]), ([], 3, Lib.decDigits x.ar.toNat)]
def restC (d : Bool) : List Sym → List (List UInt8 × Nat × List UInt8)
  | [] => []
  | x :: r => (if x.df = d then [([], 6, [44])] else [([], 7, [59]), ([32], 1, wordW x.df)]) ++ (declC x ++ restC x.df r)
def symsC : List Sym → List (List UInt8 × Nat × List UInt8)
  | [] => []
  | x :: r => ([], 1, wordW x.df) :: (declC x ++ restC x.df r)
def FitS (x : Sym) : Prop := NameP x.name ∧ 0 ≤ x.ar ∧ x.ar ≤ 999999999
theorem word_tok (d : Bool) : IsTok 1 (wordW d) := by
  cases d
  · exact ⟨99, [111, 110], rfl, by decide, by decide, by decide, by decide, by simp [lenK, goesB, smU, dgU, smB, dgB], by decide⟩
  · exact ⟨102, [117, 110], rfl, by decide, by decide, by decide, by decide, by simp [lenK, goesB, smU, dgU, smB, dgB], by decide⟩
theorem decl_ok {e : List UInt8} (he : ∀ k, Stops k e) {x : Sym} (h : FitS x) : LayOk e (declC x) :=
  ⟨gap_space, name_tok h.1, stops_at (b := 47) (by decide), gap_nil, sign_tok.2.2.2.2.2.1, stops_sign (by omega) _, gap_nil, dec_tok (by have := h.2; omega), he 3, True.intro⟩
theorem rest_ok {e : List UInt8} (he : ∀ k, Stops k e) : ∀ {l : List Sym} (d : Bool), (∀ x ∈ l, FitS x) → LayOk e (restC d l) ∧ ∀ k, Stops k (layT (restC d l) ++ e) := by
  intro l
  induction l with
  | nil => intro d _; exact ⟨True.intro, he⟩
  | cons x l ih =>
    intro d h
    obtain ⟨h1, h2⟩ := ih x.df (fun y hy => h y (by simp [hy]))
    have hd : LayOk e (declC x ++ restC x.df l) := layok_append (decl_ok h2 (h x (by simp))) h1
    simp only [restC]
    by_cases hx : x.df = d
    · simp only [if_pos hx]
      exact ⟨⟨gap_nil, sign_tok.2.2.1, stops_sign (by omega) _, hd⟩, fun k => stops_at (b := 44) (by decide)⟩
    · simp only [if_neg hx]
      exact ⟨⟨gap_nil, sign_tok.2.2.2.1, stops_sign (by omega) _, gap_space, word_tok _, stops_at (b := 32) (by decide), hd⟩, fun k => stops_at (b := 59) (by decide)⟩
theorem syms_ok {e : List UInt8} (he : ∀ k, Stops k e) {l : List Sym} (h : ∀ x ∈ l, FitS x) : LayOk e (symsC l) := by
  cases l with
  | nil => exact True.intro
  | cons x l =>
    obtain ⟨h1, h2⟩ := rest_ok he (l := l) x.df (fun y hy => h y (by simp [hy]))
    exact ⟨gap_nil, word_tok _, stops_at (b := 32) (by decide), layok_append (decl_ok h2 (h x (by simp))) h1⟩
/-! ### and back -/
theorem sym_eta {x : Sym} (h : FitS x) : (⟨⟨x.name.data.toList.toArray⟩, ((valL (Lib.decDigits x.ar.toNat) : Nat) : Int), x.df⟩ : Sym) = x := by
  rw [dec_val]
  have : ((x.ar.toNat : Nat) : Int) = x.ar := Int.toNat_of_nonneg h.2.1
  rw [this]
theorem decl_back {x : Sym} (h : FitS x) {ts : List Tok} {R : List (Nat × List UInt8)} (e : ts.map tKT = (declC x).map cKT ++ R) : ∃ p r, declF x.df ts = .ok ((p, x), r) ∧ r.map tKT = R := by
  cases ts with
  | nil => simp [declC] at e
  | cons n ts =>
    cases ts with
    | nil => simp [declC] at e
    | cons s ts =>
      cases ts with
      | nil => simp [declC] at e
      | cons k ts =>
        simp only [declC, List.map_cons, List.map_nil, List.cons_append, List.nil_append, List.cons.injEq] at e
        obtain ⟨e1, e2, e3, e4⟩ := e
        have hn : n.kind = 1 ∧ n.text = x.name.data.toList := by simpa [tKT, cKT] using e1
        have hs : s.kind = 9 := by simp [tKT, cKT] at e2; exact e2.1
        have hk : k.kind = 3 ∧ k.text = Lib.decDigits x.ar.toNat := by simpa [tKT, cKT] using e3
        refine ⟨n.at', ts, ?_, e4⟩
        rw [declF, if_pos hn.1, if_pos hs, if_pos hk.1, hn.2, hk.2, sym_eta h]
theorem word_back (d : Bool) {w : Tok} {r : List Tok} (e : tKT w = (1, wordW d)) : wordF (w :: r) = .ok (d, r) := by
  have hw : w.kind = 1 ∧ w.text = wordW d := by simpa [tKT] using e
  cases d with
  | false =>
    have h2 : w.text = conW := hw.2
    rw [wordF, if_pos hw.1, if_pos h2]
  | true =>
    have h2 : w.text = funW := hw.2
    rw [wordF, if_pos hw.1, h2, if_neg (by decide), if_pos rfl]
theorem syms_back (n : Nat) : ∀ (x : Sym) (l : List Sym) (ts : List Tok) (R : List (Nat × List UInt8)), FitS x → (∀ y ∈ l, FitS y) → ts.map tKT = (declC x ++ restC x.df l).map cKT ++ R → (∀ c, R.head? = some c → c.1 ≠ 6 ∧ c.1 ≠ 7) → l.length < n →
    ∃ v r, symsF n x.df ts = .ok (v, r) ∧ v.map (fun z => z.2) = x :: l ∧ r.map tKT = R := by
  induction n with
  | zero => intro x l ts R _ _ _ _ h; omega
  | succ n ih =>
    intro x l ts R hx hl e hR hn
    rw [List.map_append, List.append_assoc] at e
    obtain ⟨p, r, h1, h2⟩ := decl_back hx e
    cases l with
    | nil =>
      simp only [restC, List.map_nil, List.nil_append] at h2
      refine ⟨[(p, x)], r, ?_, rfl, h2⟩
      cases r with
      | nil => simp only [symsF, h1]
      | cons c r =>
        have hc := hR (tKT c) (by rw [← h2]; rfl)
        simp only [symsF, h1, if_neg (show ¬ c.kind = 6 from hc.1), if_neg (show ¬ c.kind = 7 from hc.2)]
    | cons y l =>
      have hy := hl y (by simp)
      have hl2 : ∀ z ∈ l, FitS z := fun z hz => hl z (by simp [hz])
      simp only [List.length_cons] at hn
      simp only [restC] at h2
      by_cases hd : y.df = x.df
      · simp only [if_pos hd, List.singleton_append, List.cons_append, List.nil_append, List.map_cons] at h2
        cases r with
        | nil => simp at h2
        | cons c r =>
          rw [List.map_cons, List.cons.injEq] at h2
          have hc : c.kind = 6 := by have := h2.1; simp [tKT, cKT] at this; exact this.1
          obtain ⟨v, u, g1, g2, g3⟩ := ih y l r R hy hl2 h2.2 hR (by omega)
          refine ⟨(p, x) :: v, u, ?_, by simp [g2], g3⟩
          rw [hd] at g1
          simp only [symsF, h1, if_pos hc, g1]; rfl
      · simp only [if_neg hd, List.cons_append, List.nil_append, List.map_cons] at h2
        cases r with
        | nil => simp at h2
        | cons c r =>
          cases r with
          | nil => simp at h2
          | cons w r =>
            simp only [List.map_cons, List.cons.injEq] at h2
            obtain ⟨e1, e2, e3⟩ := h2
            have hc : c.kind = 7 := by simp [tKT, cKT] at e1; exact e1.1
            obtain ⟨v, u, g1, g2, g3⟩ := ih y l r R hy hl2 e3 hR (by omega)
            refine ⟨(p, x) :: v, u, ?_, by simp [g2], g3⟩
            simp only [symsF, h1, if_neg (show ¬ c.kind = 6 by omega), if_pos hc, word_back y.df (w := w) (r := r) e2, g1]; rfl
theorem restC_len (d : Bool) (l : List Sym) : l.length ≤ (restC d l).length := by
  induction l generalizing d with
  | nil => simp
  | cons x l ih =>
    have := ih x.df
    simp only [restC, declC, List.length_append, List.length_cons]; omega
/-- What is written of symbols is read as the same. -/
theorem symsR_back {l : List Sym} (hl : l.length ≤ 64) (hg : ∀ x ∈ l, FitS x) : ∃ ts, lexF 0 (layT (symsC l)) = .ok ts ∧ symsR ts = .ok l := by
  obtain ⟨ts, h1, h2⟩ := lex_lay gap_nil (syms_ok (e := []) stops_nil hg) 0
  rw [List.append_nil] at h1
  have h2 : ts.map tKT = (symsC l).map cKT ++ [(13, [])] := h2
  refine ⟨ts, h1, ?_⟩
  cases l with
  | nil =>
    simp only [symsC, List.map_nil, List.nil_append] at h2
    cases ts with
    | nil => simp at h2
    | cons c ts =>
      have hc : c.kind = 13 := by have := (List.cons.inj h2).1; simp [tKT] at this; exact this.1
      simp only [symsR, if_pos hc]
  | cons x l =>
    simp only [symsC, List.map_cons, List.cons_append] at h2
    cases ts with
    | nil => simp at h2
    | cons w ts =>
      rw [List.map_cons, List.cons.injEq] at h2
      have hk : ¬ w.kind = 13 := by have := h2.1; simp [tKT, cKT] at this; omega
      have hlt : l.length < (w :: ts).length := by
        have h3 := congrArg List.length h2.2
        have h4 := restC_len x.df l
        simp [declC] at h3 ⊢; omega
      obtain ⟨v, r, g1, g2, g3⟩ := syms_back (w :: ts).length x l ts [(13, [])] (hg x (by simp)) (fun y hy => hg y (by simp [hy])) h2.2 (fun c hc => by simp at hc; subst hc; simp) hlt
      cases r with
      | nil => simp at g3
      | cons d r =>
        have hd : d.kind = 13 := by have := (List.cons.inj g3).1; simp [tKT] at this; exact this.1
        have hvl : v.length = (x :: l).length := by have := congrArg List.length g2; simpa using this
        simp only [symsR, if_neg hk, word_back x.df (w := w) (r := ts) h2.1, g1, if_pos hd]
        rw [if_neg (by rw [hvl]; omega), g2]
end Go.Proofs.YtbjfpfnfbgncnaaGreatDoor
/- The walks of what reads the word of an item, and one declaration. -/
namespace Go.Proofs.YtbjfpfnfbgncnaaGreatDoor
open Go.RowKit
set_option linter.unusedVariables false
set_option maxRecDepth 100000
theorem txt_con : txt conW = ⟨#[99, 111, 110]⟩ := rfl
theorem txt_fun : txt funW = ⟨#[102, 117, 110]⟩ := rfl
def WordCame (rb tb : Nat) (w : World) (R : Except Nat (Bool × List Tok)) (e : Ending) (w' : World) : Prop := match R with
  | .ok (d, r) => e = .returned (.bool d) ∧ RdAt w' rb tb r ∧ Kept (fun i => i = rb) w w'
  | .error p => GaveUp w.heap.size w' e 41 p ∧ Kept (fun i => i = rb) w w'
set_option maxHeartbeats 2000000 in
theorem defined_any {w : World} {rb tb : Nat} {t : Tok} {r : List Tok} (hR : RdAt w rb tb (t :: r)) : Calls Tryz.prog 70 #[.pointer (some ⟨rb, 0, none⟩)] w (WordCame rb tb w (wordF (t :: r))) := by
  by_cases h1 : t.kind = 1
  · have c1 := take1_ok hR 1 (by omega)
    unfold aggT at c1
    by_cases hc : t.text = conW
    · have e1 : wordF (t :: r) = .ok (false, r) := by simp [wordF, h1, hc]
      rw [e1]
      rw [hc, txt_con] at c1
      clear e1 hc h1 hR
      go_enter Tryz.func70, Tryz.ntmps70
      go_wp2_with (first | (go_at_call 52; refine c1.mono ?_; rintro e w1 ⟨rfl, k1, k2⟩))
      go_ret
      exact ⟨rfl, k1.same (Kept.alloc (Kept.refl _ _) _), Kept.alloc k2 _⟩
    · by_cases hf : t.text = funW
      · have e1 : wordF (t :: r) = .ok (true, r) := by simp [wordF, h1, hf, funW, conW]
        rw [e1]
        rw [hf, txt_fun] at c1
        clear e1 hc hf h1 hR
        go_enter Tryz.func70, Tryz.ntmps70
        go_wp2_with (first | (go_at_call 52; refine c1.mono ?_; rintro e w1 ⟨rfl, k1, k2⟩))
        go_ret
        exact ⟨rfl, k1.same (Kept.alloc (Kept.refl _ _) _), Kept.alloc k2 _⟩
      · have e1 : wordF (t :: r) = .error t.at' := by simp [wordF, h1, hc, hf]
        rw [e1]
        have n1 : ((txt t.text).toList == [99, 111, 110]) = false := by rw [ByteArray.toList_eq, txt_list]; simpa [conW] using hc
        have n2 : ((txt t.text).toList == [102, 117, 110]) = false := by rw [ByteArray.toList_eq, txt_list]; simpa [funW] using hf
        have n3 : ¬ (txt t.text).toList = [99, 111, 110] := by simpa using n1
        have n4 : ¬ (txt t.text).toList = [102, 117, 110] := by simpa using n2
        clear e1 hc hf h1 hR
        go_enter Tryz.func70, Tryz.ntmps70
        go_wp2_with (first | (go_at_call 52; refine c1.mono ?_; rintro e w1 ⟨rfl, k1, k2⟩) | (go_at_call 49; refine (giveUp_any _ _ _).mono ?_; rintro e w' ⟨rfl, rfl⟩))
        exact ⟨rfl, ⟨_, rfl, by have := k2.size; omega, alloc_at1 _ _ _⟩, Kept.alloc (Kept.alloc k2 _) _⟩
  · have e1 : wordF (t :: r) = .error t.at' := by simp [wordF, h1]
    rw [e1]
    have c1 := take1_bad hR 1 (by omega)
    clear e1 h1 hR
    go_enter Tryz.func70, Tryz.ntmps70
    go_wp2_with (first | (go_at_call 52; refine c1.mono ?_; rintro e w1 ⟨⟨b, rfl, k1, k2⟩, k3⟩))
    exact ⟨rfl, ⟨b, rfl, k1, k2⟩, Kept.mono k3 (fun _ _ f => f.elim)⟩
end Go.Proofs.YtbjfpfnfbgncnaaGreatDoor
