import Derived.Test.YthamjjhioafkjaaGreatGCodeNames17
import Derived.Test.YthamjjhioafkjaaGreatGCodeNames22
import Derived.Test.YthamjjhioafkjaaGreatGCodeNames20
namespace Go.Proofs.YthamjjhioafkjaaGreat
set_option linter.unusedVariables false
abbrev I3 := Int × Int × Int
abbrev St9 := List I3 × List (List Int)
def setB : List I3 → Nat → Int → List I3
  | [], _, _ => []
  | x :: r, 0, b => (x.1, x.2.1, b) :: r
  | x :: r, c + 1, b => x :: setB r c b
theorem setB_length : ∀ (I : List I3) (c : Nat) (b : Int), (setB I c b).length = I.length
  | [], _, _ => rfl
  | _ :: _, 0, _ => rfl
  | _ :: r, c + 1, b => by simp [setB, setB_length r c b]
def layK {α : Type} (f : α → St9 → St9) : List (Int × α) → Nat → St9 → St9
  | [], _, s => s
  | x :: r, c, s => layK f r (c + 1) (f x.2 (setB s.1 c (s.1.length : Int), s.2))
theorem layK_snoc {α : Type} (f : α → St9 → St9) : ∀ (l : List (Int × α)) (x : Int × α) (c : Nat) (s : St9), layK f (l ++ [x]) c s = f x.2 (setB (layK f l c s).1 (c + l.length) ((layK f l c s).1.length : Int), (layK f l c s).2)
  | [], x, c, s => by simp [layK]
  | y :: r, x, c, s => by
    rw [List.cons_append, layK, layK_snoc f r x (c + 1), List.length_cons]
    simp only [layK]
    rw [show c + 1 + r.length = c + (r.length + 1) by omega]
def headS (p : List Int) (ks : List Int) (s : St9) : St9 := (s.1 ++ [(1, (s.2.length : Int), 0)] ++ ks.map (fun k => ((2, k, 0) : I3)) ++ [(3, 0, 0)], s.2 ++ [p])
def layS : (n : Nat) → Tr n → St9 → St9
  | 0, _, s => s
  | n + 1, (k, r, p, l), s =>
    if k = 1 then (s.1 ++ [(4, r, 0)], s.2)
    else if k = 2 then layK (layS n) l (s.1.length + 1) (headS p (l.map (fun x => x.1)) s)
    else (s.1 ++ [(3, 0, 0)], s.2)
def insN : (n : Nat) → Tr n → Nat
  | 0, _ => 0
  | n + 1, (k, r, p, l) => if k = 2 then 3 + l.length + sumN (l.map (fun x => insN n x.2)) else 1
theorem layK_len {α : Type} {f : α → St9 → St9} {g : α → Nat} : ∀ (l : List (Int × α)) (c : Nat) (s : St9), (∀ x ∈ l, ∀ s, (f x.2 s).1.length + (f x.2 s).2.length ≤ s.1.length + s.2.length + g x.2 ∧ s.1.length ≤ (f x.2 s).1.length ∧ s.2.length ≤ (f x.2 s).2.length) → (layK f l c s).1.length + (layK f l c s).2.length ≤ s.1.length + s.2.length + sumN (l.map (fun x => g x.2)) ∧ s.1.length ≤ (layK f l c s).1.length ∧ s.2.length ≤ (layK f l c s).2.length
  | [], c, s, _ => by simp [layK, sumN]
  | x :: r, c, s, h => by
    obtain ⟨a1, a2, a3⟩ := h x (List.mem_cons_self ..) (setB s.1 c (s.1.length : Int), s.2)
    obtain ⟨b1, b2, b3⟩ := layK_len (g := g) r (c + 1) (f x.2 (setB s.1 c (s.1.length : Int), s.2)) (fun y hy => h y (List.mem_cons_of_mem _ hy))
    simp only [setB_length] at a1 a2 a3
    simp only [layK, List.map_cons, sumN]
    omega
theorem layS_eq {n : Nat} (k r : Int) (p : List Int) (l : List (Int × Tr n)) (s : St9) : layS (n + 1) (k, r, p, l) s = if k = 1 then (s.1 ++ [(4, r, 0)], s.2) else if k = 2 then layK (layS n) l (s.1.length + 1) (headS p (l.map (fun x => x.1)) s) else (s.1 ++ [(3, 0, 0)], s.2) := rfl
theorem insN_eq {n : Nat} (k r : Int) (p : List Int) (l : List (Int × Tr n)) : insN (n + 1) (k, r, p, l) = if k = 2 then 3 + l.length + sumN (l.map (fun x => insN n x.2)) else 1 := rfl
theorem layS_len : ∀ (n : Nat) (t : Tr n) (s : St9), (layS n t s).1.length + (layS n t s).2.length ≤ s.1.length + s.2.length + insN n t ∧ s.1.length ≤ (layS n t s).1.length ∧ s.2.length ≤ (layS n t s).2.length
  | 0, _, s => by simp [layS, insN]
  | n + 1, (k, r, p, l), s => by
    rw [layS_eq, insN_eq]
    by_cases h1 : k = 1
    · rw [if_pos h1, if_neg (by omega)]; simp; omega
    · rw [if_neg h1]
      by_cases h2 : k = 2
      · rw [if_pos h2, if_pos h2]
        obtain ⟨a, b, c⟩ := layK_len (f := layS n) (g := insN n) l (s.1.length + 1) (headS p (l.map (fun x => x.1)) s) (fun x _ s => layS_len n x.2 s)
        have e1 : (headS p (l.map (fun x => x.1)) s).1.length = s.1.length + 1 + l.length + 1 := by simp [headS]; omega
        have e2 : (headS p (l.map (fun x => x.1)) s).2.length = s.2.length + 1 := by simp [headS]
        rw [e1, e2] at a
        rw [e1] at b
        rw [e2] at c
        omega
      · rw [if_neg h2, if_neg h2]; simp; omega
theorem layS_leaf {n : Nat} {k r : Int} {p : List Int} {l : List (Int × Tr n)} (h : k = 1) (s : St9) : layS (n + 1) (k, r, p, l) s = (s.1 ++ [(4, r, 0)], s.2) := by
  rw [layS_eq, if_pos h]
theorem layS_branch {n : Nat} {k r : Int} {p : List Int} {l : List (Int × Tr n)} (h : k = 2) (s : St9) : layS (n + 1) (k, r, p, l) s = layK (layS n) l (s.1.length + 1) (headS p (l.map (fun x => x.1)) s) := by
  rw [layS_eq, if_neg (by omega), if_pos h]
theorem layS_fail {n : Nat} {k r : Int} {p : List Int} {l : List (Int × Tr n)} (h1 : ¬ k = 1) (h2 : ¬ k = 2) (s : St9) : layS (n + 1) (k, r, p, l) s = (s.1 ++ [(3, 0, 0)], s.2) := by
  rw [layS_eq, if_neg h1, if_neg h2]
def flat3 (I : List I3) : List Int := I.flatMap (fun x => [x.1, x.2.1, x.2.2])
theorem flat3_append (a b : List I3) : flat3 (a ++ b) = flat3 a ++ flat3 b := by simp [flat3]
theorem flat3_at : ∀ (I : List I3) (i : Nat) (h : i < I.length), (flat3 I)[i * 3]? = some I[i].1 ∧ (flat3 I)[i * 3 + 1]? = some I[i].2.1 ∧ (flat3 I)[i * 3 + 2]? = some I[i].2.2
  | x :: r, 0, h => ⟨rfl, rfl, rfl⟩
  | x :: r, i + 1, h => by
    have e : flat3 (x :: r) = x.1 :: x.2.1 :: x.2.2 :: flat3 r := rfl
    have := flat3_at r i (by simpa using h)
    rw [e, show (i + 1) * 3 = i * 3 + 1 + 1 + 1 by omega, show i * 3 + 1 + 1 + 1 + 1 = (i * 3 + 1) + 1 + 1 + 1 by omega, show i * 3 + 1 + 1 + 1 + 2 = (i * 3 + 2) + 1 + 1 + 1 by omega]
    simpa using this
theorem flat3_setB : ∀ (I : List I3) (c : Nat) (b : Int), flat3 (setB I c b) = (flat3 I).set (c * 3 + 2) b
  | [], _, _ => by simp [setB, flat3]
  | x :: r, 0, b => rfl
  | x :: r, c + 1, b => by
    have e : ∀ (x : I3) r, flat3 (x :: r) = x.1 :: x.2.1 :: x.2.2 :: flat3 r := fun _ _ => rfl
    rw [setB, e, e, flat3_setB r c b, show (c + 1) * 3 + 2 = (c * 3 + 2) + 1 + 1 + 1 by omega]
    rfl
end Go.Proofs.YthamjjhioafkjaaGreat
namespace Go.Proofs.YthamjjhioafkjaaGreat
set_option maxRecDepth 100000
set_option linter.unusedVariables false
open Go.RowKit
attribute [local go_sem ↓] Go.wp_at_zero Go.wp_at_succ
def caseG : List I3 → Nat → Int → Nat × Bool
  | [], i, _ => (i, false)
  | x :: r, i, s => if x.1 = 2 then (if x.2.1 = s then (i, true) else caseG r (i + 1) s) else (i, false)
def caseF (I : List I3) (s : Int) (a : Nat) : Nat × Bool := caseG (I.drop a) a s
theorem caseF_step {I : List I3} {s : Int} {a : Nat} (h : a < I.length) : caseF I s a = if I[a].1 = 2 then (if I[a].2.1 = s then (a, true) else caseF I s (a + 1)) else (a, false) := by
  unfold caseF
  rw [List.drop_eq_getElem_cons h, caseG]
theorem caseF_end {I : List I3} {s : Int} {a : Nat} (h : I.length ≤ a) : caseF I s a = (a, false) := by
  unfold caseF
  rw [List.drop_eq_nil_of_le h, caseG]
theorem caseG_le : ∀ (l : List I3) (i : Nat) (s : Int), i ≤ (caseG l i s).1 ∧ (caseG l i s).1 ≤ i + l.length ∧ ((caseG l i s).2 = true → (caseG l i s).1 < i + l.length)
  | [], i, s => by simp [caseG]
  | x :: r, i, s => by
    unfold caseG
    split
    · split
      · simp
      · obtain ⟨a, b, c⟩ := caseG_le r (i + 1) s
        refine ⟨by omega, by simp only [List.length_cons]; omega, fun h => ?_⟩
        have := c h
        simp only [List.length_cons]; omega
    · simp
theorem caseF_le {I : List I3} {s : Int} {a : Nat} (h : a ≤ I.length) : a ≤ (caseF I s a).1 ∧ (caseF I s a).1 ≤ I.length ∧ ((caseF I s a).2 = true → (caseF I s a).1 < I.length) := by
  obtain ⟨x, y, z⟩ := caseG_le (I.drop a) a s
  rw [List.length_drop] at y z
  refine ⟨x, by unfold caseF; omega, fun q => ?_⟩
  have := z q
  unfold caseF; omega
def hasB (E : List Int) (n : Int) : Bool := idxB n E.length && decide (0 ≤ E.getD n.toNat (-1))
abbrev R5 := Int × Int × List Int × Int × Int
def bad5 : R5 := (0, 0, [], 0, 92)
def lookF (L : List Sym) (ok : Bool) (T : List Int) (I : List I3) (E : List Int) (node : Int) (a : Nat) (p : List Int) : R5 ⊕ Int :=
  if (caseF I (headI ok T (wayI L ok T node p)) (a + 1)).2 = true then
    (if (I.getD (caseF I (headI ok T (wayI L ok T node p)) (a + 1)).1 (0, 0, 0)).2.2 ≤ ((caseF I (headI ok T (wayI L ok T node p)) (a + 1)).1 : Int) then .inl bad5 else .inr (I.getD (caseF I (headI ok T (wayI L ok T node p)) (a + 1)).1 (0, 0, 0)).2.2)
  else if hasB E (headI ok T (wayI L ok T node p)) = true then .inl (3, 0, p, wayI L ok T node p, 0) else .inr ((caseF I (headI ok T (wayI L ok T node p)) (a + 1)).1 : Int)
def runF (L : List Sym) (ok : Bool) (T : List Int) (I : List I3) (P : List (List Int)) (E : List Int) (node : Int) : Nat → Nat → R5
  | 0, _ => bad5
  | f + 1, a => match I[a]? with
    | none => bad5
    | some x => if x.1 = 4 then (1, x.2.1, [], 0, 0) else if x.1 = 3 then (2, 0, [], 0, 0)
      else if x.1 = 1 ∧ idxB x.2.1 P.length = true then (match lookF L ok T I E node a (P.getD x.2.1.toNat []) with
        | .inl r => r
        | .inr z => runF L ok T I P E node f z.toNat)
      else bad5
theorem lookF_gt {L : List Sym} {ok : Bool} {T : List Int} {I : List I3} {E : List Int} {node : Int} {a : Nat} {p : List Int} (h : a < I.length) {z : Int} (hz : lookF L ok T I E node a p = .inr z) : (a : Int) < z := by
  unfold lookF at hz
  obtain ⟨x, _, _⟩ := caseF_le (I := I) (s := headI ok T (wayI L ok T node p)) (a := a + 1) (by omega)
  split at hz
  · split at hz
    · cases hz
    · cases hz; omega
  · split at hz
    · cases hz
    · cases hz; omega
theorem runF_more {L : List Sym} {ok : Bool} {T : List Int} {I : List I3} {P : List (List Int)} {E : List Int} {node : Int} : ∀ (f g a : Nat), I.length < a + f → f ≤ g → runF L ok T I P E node f a = runF L ok T I P E node g a
  | 0, g, a, h, hg => by
    cases g with
    | zero => rfl
    | succ g =>
      rw [runF, runF, List.getElem?_eq_none (by omega)]
  | f + 1, 0, a, h, hg => by omega
  | f + 1, g + 1, a, h, hg => by
    rw [runF, runF]
    cases hi : I[a]? with
    | none => rfl
    | some x =>
      have ha : a < I.length := by
        rcases Nat.lt_or_ge a I.length with q | q
        · exact q
        · rw [List.getElem?_eq_none q] at hi; cases hi
      simp only
      split
      · rfl
      · split
        · rfl
        · split
          · cases hl : lookF L ok T I E node a (P.getD x.2.1.toNat []) with
            | inl r => rfl
            | inr z =>
              have := lookF_gt ha hl
              exact runF_more f g z.toNat (by omega) (by omega)
          · rfl
def codeF (L : List Sym) (ok : Bool) (T : List Int) (I : List I3) (P : List (List Int)) (E : List Int) (n node : Int) : R5 :=
  if hasB E n = true then runF L ok T I P E node (I.length + 1) (E.getD n.toNat (-1)).toNat else (0, 0, [], 0, 90)
def InsAt (w : World) (io : Option Addr) (I : List I3) : Prop :=
  I = [] ∨ ∃ b off, io = some ⟨b, off, none⟩ ∧ b < w.heap.size ∧ ∀ i (h : i < I.length), w.cell? ⟨b, off + i * 3, none⟩ = some (.int .i64 I[i].1) ∧ w.cell? ⟨b, off + i * 3 + 1, none⟩ = some (.int .i64 I[i].2.1) ∧ w.cell? ⟨b, off + i * 3 + 2, none⟩ = some (.int .i64 I[i].2.2)
theorem InsAt.same {w w' : World} {io : Option Addr} {I : List I3} (h : InsAt w io I) (hk : Same0 w w') : InsAt w' io I := by
  refine h.imp id ?_
  rintro ⟨b, off, e, hb, hc⟩
  refine ⟨b, off, e, Nat.lt_of_lt_of_le hb hk.size, fun i hi => ?_⟩
  obtain ⟨c0, c1, c2⟩ := hc i hi
  exact ⟨(hk.cell (p := ⟨b, off + i * 3, none⟩) hb (fun f => f)).trans c0, (hk.cell (p := ⟨b, off + i * 3 + 1, none⟩) hb (fun f => f)).trans c1, (hk.cell (p := ⟨b, off + i * 3 + 2, none⟩) hb (fun f => f)).trans c2⟩
theorem InsAt.get {w : World} {io : Option Addr} {I : List I3} (h : InsAt w io I) {i : Nat} (hi : i < I.length) : ∃ b off, io = some ⟨b, off, none⟩ ∧ b < w.heap.size ∧ w.cell? ⟨b, off + i * 3, none⟩ = some (.int .i64 I[i].1) ∧ w.cell? ⟨b, off + i * 3 + 1, none⟩ = some (.int .i64 I[i].2.1) ∧ w.cell? ⟨b, off + i * 3 + 2, none⟩ = some (.int .i64 I[i].2.2) := by
  rcases h with rfl | ⟨b, off, e, hb, hc⟩
  · simp at hi
  · exact ⟨b, off, e, hb, hc i hi⟩
def PthAt (w : World) (po : Option Addr) (P : List (List Int)) : Prop :=
  P = [] ∨ ∃ b off, po = some ⟨b, off, none⟩ ∧ b < w.heap.size ∧ ∀ i (h : i < P.length), ∃ ao ac, w.cell? ⟨b, off + i, none⟩ = some (.slice ao P[i].length ac) ∧ Arg w ao P[i] ac
theorem PthAt.same {w w' : World} {po : Option Addr} {P : List (List Int)} (h : PthAt w po P) (hk : Same0 w w') : PthAt w' po P := by
  refine h.imp id ?_
  rintro ⟨b, off, e, hb, hc⟩
  refine ⟨b, off, e, Nat.lt_of_lt_of_le hb hk.size, fun i hi => ?_⟩
  obtain ⟨ao, ac, c0, c1⟩ := hc i hi
  exact ⟨ao, ac, (hk.cell (p := ⟨b, off + i, none⟩) hb (fun f => f)).trans c0, c1.same hk⟩
theorem PthAt.get {w : World} {po : Option Addr} {P : List (List Int)} (h : PthAt w po P) {i : Nat} (hi : i < P.length) : ∃ b off ao ac, po = some ⟨b, off, none⟩ ∧ b < w.heap.size ∧ w.cell? ⟨b, off + i, none⟩ = some (.slice ao P[i].length ac) ∧ Arg w ao P[i] ac := by
  rcases h with rfl | ⟨b, off, e, hb, hc⟩
  · simp at hi
  · obtain ⟨ao, ac, c0, c1⟩ := hc i hi
    exact ⟨b, off, ao, ac, e, hb, c0, c1⟩
def FndOut (w : World) (R : R5) (e : Ending) (w' : World) : Prop :=
  ∃ qo qc, e = .returned (.tuple #[.agg #[.int .i64 R.1, .int .i64 R.2.1, .slice qo R.2.2.1.length qc, .int .i64 R.2.2.2.1], .int .i64 R.2.2.2.2]) ∧ Row w.heap.size w' (.slice qo R.2.2.1.length qc) R.2.2.1 ∧ Same0 w w'
set_option maxHeartbeats 2000000 in
theorem chas_any {w : World} {eo : Option Addr} {E : List Int} (hE : IntsAt w eo E) (io po ro : Option Addr) (il ic pl pc ec rl rc : Nat) (n : Int) :
    Calls Tryz.prog 57 #[.agg #[.slice io il ic, .slice po pl pc, .slice eo E.length ec, .slice ro rl rc], .int .i64 n] w fun e w' => e = .returned (.bool (hasB E n)) ∧ Same0 w w' := by
  have CI := isIndex_any n E.length
  have ka : Same0 w (w.alloc (.cells #[.slice io il ic, .slice po pl pc, .slice eo E.length ec, .slice ro rl rc] 45)) := (Kept.refl _ w).alloc _
  cases hi : idxB n E.length with
  | false =>
    rw [hi] at CI
    have H : Hid (hasB E n = false) := by show _ = _; simp [hasB, hi]
    clear hi hE
    go_enter Tryz.func57, Tryz.ntmps57
    go_wp2_with (first | (go_at_call 49; refine (CI _).mono ?_; rintro e w2 ⟨rfl, rfl⟩))
    go_ret
    exact ⟨by rw [H.out]; rfl, ka⟩
  | true =>
    rw [hi] at CI
    obtain ⟨i, rfl, hl⟩ := idx_yes hi
    have H : Hid (hasB E (i : Int) = decide (0 ≤ E[i])) := by
      show _ = _
      simp [hasB, hi, hl]
    obtain ⟨b, off, rfl, hb, hcell⟩ := (hE.same ka).get hl
    have i1 : (0 : Int) ≤ (i : Int) := by omega
    have i2 : (i : Int) < (E.length : Int) := by omega
    clear hi hE
    generalize E[i] = z at *
    go_enter Tryz.func57, Tryz.ntmps57
    go_wp2_with (first | (go_at_call 49; refine (CI _).mono ?_; rintro e w2 ⟨rfl, rfl⟩))
    go_ret
    exact ⟨by rw [H.out]; rfl, ka⟩
set_option maxHeartbeats 4000000 in
theorem ccase_any {w : World} {io : Option Addr} {I : List I3} (hI : InsAt w io I) (hl : I.length ≤ 140737488355328) (ic : Nat) (po eo ro : Option Addr) (pl pc el ec rl rc : Nat) (v : Value) (node s : Int) (a : Nat) (ha : a ≤ I.length) :
    Calls Tryz.prog 126 #[.agg #[.slice io I.length ic, .slice po pl pc, .slice eo el ec, .slice ro rl rc, .iface 70 v, .int .i64 node], .int .i64 s, .int .i64 (a : Int)] w fun e w' => e = .returned (.tuple #[.int .i64 ((caseF I s a).1 : Int), .bool (caseF I s a).2]) ∧ Same0 w w' := by
  obtain ⟨W1, hW1⟩ : ∃ W1, W1 = w.alloc (.cells #[.slice io I.length ic, .slice po pl pc, .slice eo el ec, .slice ro rl rc, .iface 70 v, .int .i64 node] 140) := ⟨_, rfl⟩
  have ka : Same0 w W1 := by rw [hW1]; exact (Kept.refl _ w).alloc _
  have hbx : W1.heap[w.heap.size]? = some (.cells #[.slice io I.length ic, .slice po pl pc, .slice eo el ec, .slice ro rl rc, .iface 70 v, .int .i64 node] 140 (0, 0)) := by rw [hW1]; exact heap_alloc_new _ _
  have x0 := cellAt hbx 0
  simp only [List.getElem?_toArray, List.getElem?_cons_zero] at x0
  have hI1 := hI.same ka
  clear hI hbx
  go_enter Tryz.func126, Tryz.ntmps126
  go_upto_region 1 with fail
  rw [← hW1]
  clear hW1
  go_loop [2] (fun s2 => ∃ k : Nat, k ≤ I.length ∧ s2 = .int .i64 (k : Int) ∧ Hid (caseF I s a = caseF I s k)) (fun s2 => I.length - (intOf s2).toNat)
  case atStart => exact ⟨a, ha, rfl, rfl⟩
  case round =>
    clear ha
    obtain ⟨k, hk, rfl, hF⟩ := hrel
    by_cases hlt : k < I.length
    · obtain ⟨b, off, rfl, hb, c0, c1, c2⟩ := hI1.get hlt
      have i1 : (0 : Int) ≤ (k : Int) := by omega
      have i2 : (k : Int) < (I.length : Int) := by omega
      by_cases ho : I[k].1 = 2
      · rw [ho] at c0
        by_cases hs : I[k].2.1 = s
        · have H : Hid (caseF I s a = (k, true)) := by rw [hF.out]; show _ = _; rw [caseF_step hlt, if_pos ho, if_pos hs]
          rw [hs] at c1
          clear hF ho hs
          go_wp2_with fail
          go_ret2
          exact ⟨by rw [H.out]; rfl, ka⟩
        · have H : Hid (caseF I s a = caseF I s (k + 1)) := by rw [hF.out]; show _ = _; rw [caseF_step hlt, if_pos ho, if_neg hs]
          have hs' : (I[k].2.1 == s) = false := by simpa using hs
          generalize I[k].2.1 = z at *
          clear hF ho hs
          go_wp2_with fail
          exact ⟨⟨k + 1, by omega, by go_num, H⟩, by simp [intOf]; omega⟩
      · have H : Hid (caseF I s a = (k, false)) := by rw [hF.out]; show _ = _; rw [caseF_step hlt, if_neg ho]
        have ho' : (I[k].1 == 2) = false := by simpa using ho
        generalize I[k].1 = z at *
        clear hF ho
        go_wp2_with fail
        go_ret2
        exact ⟨by rw [H.out]; rfl, ka⟩
    · have H : Hid (caseF I s a = (k, false)) := by rw [hF.out]; exact caseF_end (by omega)
      clear hF
      go_wp2_with fail
      go_ret2
      exact ⟨by rw [H.out]; rfl, ka⟩
end Go.Proofs.YthamjjhioafkjaaGreat
namespace Go.Proofs.YthamjjhioafkjaaGreat
set_option maxRecDepth 100000
set_option linter.unusedVariables false
open Go.RowKit
attribute [local go_sem ↓] Go.wp_at_zero Go.wp_at_succ
theorem lookF_of {L : List Sym} {ok : Bool} {T : List Int} {I : List I3} {E : List Int} {node : Int} {a : Nat} {p : List Int} {nd s : Int} {j : Nat} {has : Bool} (hnd : wayI L ok T node p = nd) (hs : headI ok T nd = s) (hJ : caseF I s (a + 1) = (j, has)) : lookF L ok T I E node a p = if has = true then (if (I.getD j (0, 0, 0)).2.2 ≤ (j : Int) then .inl bad5 else .inr (I.getD j (0, 0, 0)).2.2) else if hasB E s = true then .inl (3, 0, p, nd, 0) else .inr (j : Int) := by
  subst hnd
  subst hs
  unfold lookF
  rw [hJ]
def LookOut (w : World) (r : R5 ⊕ Int) (e : Ending) (w' : World) : Prop :=
  match r with
  | .inl R => ∃ qo qc, e = .returned (.tuple #[.agg #[.int .i64 R.1, .int .i64 R.2.1, .slice qo R.2.2.1.length qc, .int .i64 R.2.2.2.1], .int .i64 0, .int .i64 R.2.2.2.2]) ∧ Row w.heap.size w' (.slice qo R.2.2.1.length qc) R.2.2.1 ∧ Same0 w w'
  | .inr z => e = .returned (.tuple #[.agg #[.int .i64 0, .int .i64 0, .slice none 0 0, .int .i64 0], .int .i64 z, .int .i64 0]) ∧ Same0 w w'
set_option maxHeartbeats 16000000 in
theorem look_any {base : Nat} {w : World} {L : List Sym} {ok : Bool} {T : List Int} {ho : Option Addr} {hn hc : Nat} {go : Option Addr} {gn gc : Nat} (hv : VwAt base w L ok T (.agg #[.slice ho hn hc, .slice go gn gc])) {io : Option Addr} {I : List I3} (hI : InsAt w io I) (hl : I.length ≤ 140737488355328) {eo : Option Addr} {E : List Int} (hE : IntsAt w eo E) {qo : Option Addr} {qc : Nat} {p : List Int} (hp : Arg w qo p qc) (ic ec : Nat) (po ro : Option Addr) (pl pc rl rc : Nat) (node : Int) (a : Nat) (ha : a < I.length) :
    Calls Tryz.prog 92 #[.agg #[.slice io I.length ic, .slice po pl pc, .slice eo E.length ec, .slice ro rl rc, .iface 70 (.agg #[.slice ho hn hc, .slice go gn gc]), .int .i64 node], .int .i64 (a : Int), .slice qo p.length qc] w (LookOut w (lookF L ok T I E node a p)) := by
  have hmx : p.length ≤ maxLen := by have := hp.size; unfold maxLen; omega
  obtain ⟨W1, hW1⟩ : ∃ W1, W1 = (w.alloc (.cells #[.slice io I.length ic, .slice po pl pc, .slice eo E.length ec, .slice ro rl rc, .iface 70 (.agg #[.slice ho hn hc, .slice go gn gc]), .int .i64 node] 140)).alloc (.cells #[.int .i64 0, .int .i64 0, .slice none 0 0, .int .i64 0] 73) := ⟨_, rfl⟩
  have KW : Same0 w W1 := by rw [hW1]; exact ((Kept.refl _ w).alloc _).alloc _
  have hbx : W1.heap[w.heap.size]? = some (.cells #[.slice io I.length ic, .slice po pl pc, .slice eo E.length ec, .slice ro rl rc, .iface 70 (.agg #[.slice ho hn hc, .slice go gn gc]), .int .i64 node] 140 (0, 0)) := by rw [hW1]; exact heap_alloc2_old _ _ _
  have hfd : W1.heap[w.heap.size + 1]? = some (.cells #[.int .i64 0, .int .i64 0, .slice none 0 0, .int .i64 0] 73 (0, 0)) := by rw [hW1]; exact heap_al_al _ _ _
  have BX : Hid (∀ ww, Same0 W1 ww → ww.cell? ⟨w.heap.size, 0, none⟩ = some (.slice io I.length ic) ∧ ww.cell? ⟨w.heap.size, 1, none⟩ = some (.slice po pl pc) ∧ ww.cell? ⟨w.heap.size, 2, none⟩ = some (.slice eo E.length ec) ∧ ww.cell? ⟨w.heap.size, 3, none⟩ = some (.slice ro rl rc) ∧ ww.cell? ⟨w.heap.size, 4, none⟩ = some (.iface 70 (.agg #[.slice ho hn hc, .slice go gn gc])) ∧ ww.cell? ⟨w.heap.size, 5, none⟩ = some (.int .i64 node)) := fun ww hk => by
    have := hk.at0 hbx
    exact ⟨cellAt this 0, cellAt this 1, cellAt this 2, cellAt this 3, cellAt this 4, cellAt this 5⟩
  have RC : Hid (∀ ww, Same0 W1 ww → (ww.cell? ⟨w.heap.size + 1, 0, none⟩ = some (.int .i64 0) ∧ ww.cell? ⟨w.heap.size + 1, 1, none⟩ = some (.int .i64 0) ∧ ww.cell? ⟨w.heap.size + 1, 2, none⟩ = some (.slice none 0 0) ∧ ww.cell? ⟨w.heap.size + 1, 3, none⟩ = some (.int .i64 0)) ∧ ww.frozen? ⟨w.heap.size + 1, 0, none⟩ = false ∧ ww.frozen? ⟨w.heap.size + 1, 1, none⟩ = false ∧ ww.frozen? ⟨w.heap.size + 1, 2, none⟩ = false ∧ ww.frozen? ⟨w.heap.size + 1, 3, none⟩ = false) := fun ww hk => by
    have := hk.at0 hfd
    exact ⟨⟨cellAt this 0, cellAt this 1, cellAt this 2, cellAt this 3⟩, frozenAt this 0, frozenAt this 1, frozenAt this 2, frozenAt this 3⟩
  have PUT : Hid (∀ ww x0 x1 x2 x3, Same0 W1 ww → (((((ww.setCell ⟨w.heap.size + 1, 0, none⟩ x0).setCell ⟨w.heap.size + 1, 1, none⟩ x1).setCell ⟨w.heap.size + 1, 2, none⟩ x2).setCell ⟨w.heap.size + 1, 3, none⟩ x3).cell? ⟨w.heap.size + 1, 0, none⟩ = some x0 ∧ ((((ww.setCell ⟨w.heap.size + 1, 0, none⟩ x0).setCell ⟨w.heap.size + 1, 1, none⟩ x1).setCell ⟨w.heap.size + 1, 2, none⟩ x2).setCell ⟨w.heap.size + 1, 3, none⟩ x3).cell? ⟨w.heap.size + 1, 1, none⟩ = some x1 ∧ ((((ww.setCell ⟨w.heap.size + 1, 0, none⟩ x0).setCell ⟨w.heap.size + 1, 1, none⟩ x1).setCell ⟨w.heap.size + 1, 2, none⟩ x2).setCell ⟨w.heap.size + 1, 3, none⟩ x3).cell? ⟨w.heap.size + 1, 2, none⟩ = some x2 ∧ ((((ww.setCell ⟨w.heap.size + 1, 0, none⟩ x0).setCell ⟨w.heap.size + 1, 1, none⟩ x1).setCell ⟨w.heap.size + 1, 2, none⟩ x2).setCell ⟨w.heap.size + 1, 3, none⟩ x3).cell? ⟨w.heap.size + 1, 3, none⟩ = some x3) ∧ Kept (fun q => q = w.heap.size + 1) ww ((((ww.setCell ⟨w.heap.size + 1, 0, none⟩ x0).setCell ⟨w.heap.size + 1, 1, none⟩ x1).setCell ⟨w.heap.size + 1, 2, none⟩ x2).setCell ⟨w.heap.size + 1, 3, none⟩ x3) ∧ Same0 w ((((ww.setCell ⟨w.heap.size + 1, 0, none⟩ x0).setCell ⟨w.heap.size + 1, 1, none⟩ x1).setCell ⟨w.heap.size + 1, 2, none⟩ x2).setCell ⟨w.heap.size + 1, 3, none⟩ x3)) := by
    intro ww x0 x1 x2 x3 hk
    have rs := hk.at0 hfd
    have s3 := setAt (setAt (setAt (setAt rs 0 x0) 1 x1) 2 x2) 3 x3
    have k1 := kept_at ww (w.heap.size + 1) 0 x0
    have k2 := Kept.trans k1 (kept_at _ (w.heap.size + 1) 1 x1) (fun _ _ e => e)
    have k3 := Kept.trans k2 (kept_at _ (w.heap.size + 1) 2 x2) (fun _ _ e => e)
    have k4 := Kept.trans k3 (kept_at _ (w.heap.size + 1) 3 x3) (fun _ _ e => e)
    exact ⟨⟨cellAt s3 0, cellAt s3 1, cellAt s3 2, cellAt s3 3⟩, k4, Kept.trans (KW.trans' hk) k4 (fun i hi e => by omega)⟩
  have CK : Hid (∀ ww, Same0 w ww → Calls Tryz.prog 125 #[.agg #[.slice io I.length ic, .slice po pl pc, .slice eo E.length ec, .slice ro rl rc, .iface 70 (.agg #[.slice ho hn hc, .slice go gn gc]), .int .i64 node], .slice qo p.length qc] ww fun e w' => e = .returned (.tuple #[.int .i64 (wayI L ok T node p), .int .i64 (headI ok T (wayI L ok T node p)), .bool false, .int .i64 0]) ∧ Same0 ww w') := fun ww hk => cask_any (hv.same hk) (hp.at'.same hk) hmx _ _ _ _ _ _ _ _ _ _ _ _ node
  have CO : Hid (∀ ww s, Same0 w ww → Calls Tryz.prog 126 #[.agg #[.slice io I.length ic, .slice po pl pc, .slice eo E.length ec, .slice ro rl rc, .iface 70 (.agg #[.slice ho hn hc, .slice go gn gc]), .int .i64 node], .int .i64 s, .int .i64 ((a : Int) + 1)] ww fun e w' => e = .returned (.tuple #[.int .i64 ((caseF I s (a + 1)).1 : Int), .bool (caseF I s (a + 1)).2]) ∧ Same0 ww w') := fun ww s hk => ccase_any (hI.same hk) hl _ _ _ _ _ _ _ _ _ _ _ node s (a + 1) (by omega)
  have CB : Hid (∀ ww n, Same0 w ww → Calls Tryz.prog 57 #[.agg #[.slice io I.length ic, .slice po pl pc, .slice eo E.length ec, .slice ro rl rc], .int .i64 n] ww fun e w' => e = .returned (.bool (hasB E n)) ∧ Same0 ww w') := fun ww n hk => chas_any (hE.same hk) _ _ _ _ _ _ _ _ _ _ n
  have CC : Hid (∀ ww, Same0 w ww → Calls Tryz.prog 70 #[.slice qo p.length qc] ww fun e w' => ∃ zo zc, e = .returned (.slice zo p.length zc) ∧ Hid (Row ww.heap.size w' (.slice zo p.length zc) p) ∧ Same0 ww w') := fun ww hk => by
    refine (cloneI_any (hp.same hk)).mono ?_
    rintro e w' ⟨v, rfl, hr, hk'⟩
    obtain ⟨zo, zc, rfl, _⟩ := hr.ints
    exact ⟨zo, zc, rfl, hr, hk'⟩
  have HI : Hid (∀ ww j (hj : j < I.length), Same0 w ww → ∃ b off, io = some ⟨b, off, none⟩ ∧ ww.cell? ⟨b, off + j * 3 + 2, none⟩ = some (.int .i64 I[j].2.2)) := fun ww j hj hk => by
    obtain ⟨b, off, e, _, _, _, h2⟩ := (hI.same hk).get hj
    exact ⟨b, off, e, h2⟩
  have C1 := CK.out W1 KW
  obtain ⟨x0, x1, x2, x3, x4, x5⟩ := BX.out W1 (Kept.refl _ _)
  have ai : (a : Int) < 140737488355328 := by omega
  obtain ⟨nd, hnd⟩ : ∃ nd, wayI L ok T node p = nd := ⟨_, rfl⟩
  rw [hnd] at C1
  obtain ⟨s, hs⟩ : ∃ s, headI ok T nd = s := ⟨_, rfl⟩
  rw [hs] at C1
  obtain ⟨cle, cl2, clt⟩ := caseF_le (I := I) (s := s) (a := a + 1) (by omega)
  obtain ⟨j, has, hJ⟩ : ∃ j has, caseF I s (a + 1) = (j, has) := ⟨_, _, rfl⟩
  have C2 : Hid (∀ ww, Same0 w ww → Calls Tryz.prog 126 #[.agg #[.slice io I.length ic, .slice po pl pc, .slice eo E.length ec, .slice ro rl rc, .iface 70 (.agg #[.slice ho hn hc, .slice go gn gc]), .int .i64 node], .int .i64 s, .int .i64 ((a : Int) + 1)] ww fun e w' => e = .returned (.tuple #[.int .i64 (j : Int), .bool has]) ∧ Same0 ww w') := fun ww hk => by
    have := CO.out ww s hk
    rw [hJ] at this
    exact this
  have HF : Hid _ := lookF_of (E := E) hnd hs hJ
  rw [hJ] at cle cl2 clt
  simp only at cle cl2 clt
  have j0 : (0 : Int) ≤ (j : Int) := by omega
  clear hJ CO CK hv hI hE hp hbx hfd hnd hs
  cases has with
  | true =>
    have hj := clt rfl
    obtain ⟨ib, ioff, rfl, _⟩ := HI.out w j hj (Kept.refl _ _)
    have HC : Hid (∀ ww, Same0 w ww → ww.cell? ⟨ib, ioff + j * 3 + 2, none⟩ = some (.int .i64 I[j].2.2)) := fun ww hk => by
      obtain ⟨b', off', e, h2⟩ := HI.out ww j hj hk
      simp only [Option.some.injEq, Addr.mk.injEq, and_true] at e
      obtain ⟨rfl, rfl⟩ := e
      exact h2
    have eg : I.getD j (0, 0, 0) = I[j] := by simp [hj]
    rw [if_pos rfl, eg] at HF
    have j1 : (j : Int) < (I.length : Int) := by omega
    generalize I[j].2.2 = z at *
    clear HI clt eg CB CC
    by_cases hz : z ≤ (j : Int)
    · rw [if_pos hz] at HF
      rw [HF.out]
      clear HF
      go_enter Tryz.func92, Tryz.ntmps92
      go_upto_region 1 with fail
      rw [← hW1]
      clear hW1
      go_wp2_with (first
        | (go_at_call 125; refine C1.mono ?_; rintro e w2 ⟨rfl, k2⟩; have C3 := C2.out w2 (KW.trans' k2); obtain ⟨y0, y1, y2, y3, y4, y5⟩ := BX.out w2 k2)
        | (go_at_call 126; refine C3.mono ?_; rintro e w3 ⟨rfl, k3⟩; have k13 := k2.trans' k3; obtain ⟨z0, z1, z2, z3, z4, z5⟩ := BX.out w3 k13; have cz := HC.out w3 (KW.trans' k13); obtain ⟨⟨r0, r1, r2, r3⟩, f0, f1, f2, f3⟩ := RC.out w3 k13))
      obtain ⟨⟨g0, g1, g2, g3⟩, kk, ks⟩ := PUT.out w3 (.int .i64 0) (.int .i64 0) (.slice none 0 0) (.int .i64 0) k13
      exact bodyPost_ret (v := .tuple #[.agg #[.int .i64 0, .int .i64 0, .slice none 0 0, .int .i64 0], .int .i64 0, .int .i64 92]) (by simp [results, Tryz.results92, go_sem, g0, g1, g2, g3]) rfl ⟨none, 0, rfl, World.ownsRow_nil _ _ _ _, ks⟩
    · rw [if_neg hz] at HF
      rw [HF.out]
      have hzd : decide (z ≤ (j : Int)) = false := by simpa using hz
      clear HF hz
      go_enter Tryz.func92, Tryz.ntmps92
      go_upto_region 1 with fail
      rw [← hW1]
      clear hW1
      go_upto_region 5 with (first
        | (go_at_call 125; refine C1.mono ?_; rintro e w2 ⟨rfl, k2⟩; have C3 := C2.out w2 (KW.trans' k2); obtain ⟨y0, y1, y2, y3, y4, y5⟩ := BX.out w2 k2)
        | (go_at_call 126; refine C3.mono ?_; rintro e w3 ⟨rfl, k3⟩; have k13 := k2.trans' k3; obtain ⟨z0, z1, z2, z3, z4, z5⟩ := BX.out w3 k13; have cz := HC.out w3 (KW.trans' k13); obtain ⟨⟨r0, r1, r2, r3⟩, f0, f1, f2, f3⟩ := RC.out w3 k13))
      go_upto_region 7 with fail
      go_upto_region 8 with fail
      have PH : Hid _ := PUT.out w3 (.int .i64 0) (.int .i64 0) (.slice none 0 0) (.int .i64 0) k13
      have S0 : w3.cell? ⟨w.heap.size, 0, none⟩ = some (.slice (some ⟨ib, ioff, none⟩) I.length ic) ∧ w3.cell? ⟨ib, ioff + j * 3 + 2, none⟩ = some (.int .i64 z) := ⟨z0, cz⟩
      have S1 : Hid ((((((w3.setCell ⟨w.heap.size + 1, 0, none⟩ (.int .i64 0)).setCell ⟨w.heap.size + 1, 1, none⟩ (.int .i64 0)).setCell ⟨w.heap.size + 1, 2, none⟩ (.slice none 0 0)).setCell ⟨w.heap.size + 1, 3, none⟩ (.int .i64 0))).cell? ⟨w.heap.size, 0, none⟩ = some (.slice (some ⟨ib, ioff, none⟩) I.length ic) ∧ (((((w3.setCell ⟨w.heap.size + 1, 0, none⟩ (.int .i64 0)).setCell ⟨w.heap.size + 1, 1, none⟩ (.int .i64 0)).setCell ⟨w.heap.size + 1, 2, none⟩ (.slice none 0 0)).setCell ⟨w.heap.size + 1, 3, none⟩ (.int .i64 0))).cell? ⟨ib, ioff + j * 3 + 2, none⟩ = some (.int .i64 z)) := by
        obtain ⟨_, kk, _⟩ := PH.out
        have hib : ib < w.heap.size := World.block_lt_of_cell? w _ (HC.out w (Kept.refl _ _))
        exact ⟨(kk.cell (p := ⟨w.heap.size, 0, none⟩) (World.block_lt_of_cell? _ _ z0) (fun e => by have e' : w.heap.size = w.heap.size + 1 := e; omega)).trans z0, (kk.cell (p := ⟨ib, ioff + j * 3 + 2, none⟩) (World.block_lt_of_cell? _ _ cz) (fun e => by have e' : ib = w.heap.size + 1 := e; omega)).trans cz⟩
      clear y0 y1 y2 y3 y4 y5 z0 z1 z2 z3 z4 z5 cz
      go_region_held3 (fun w' => w'.cell? ⟨w.heap.size, 0, none⟩ = some (.slice (some ⟨ib, ioff, none⟩) I.length ic) ∧ w'.cell? ⟨ib, ioff + j * 3 + 2, none⟩ = some (.int .i64 z)) (first | exact S0 | exact S1.out) (fail)
      all_goals
        go_wp2_with fail
        obtain ⟨⟨g0, g1, g2, g3⟩, kk, ks⟩ := PH.out
        exact bodyPost_ret (v := .tuple #[.agg #[.int .i64 0, .int .i64 0, .slice none 0 0, .int .i64 0], .int .i64 z, .int .i64 0]) (by simp [results, Tryz.results92, go_sem, g0, g1, g2, g3]) rfl ⟨rfl, Kept.drew ks⟩
  | false =>
    have CB2 : Hid (∀ ww, Same0 w ww → Calls Tryz.prog 57 #[.agg #[.slice io I.length ic, .slice po pl pc, .slice eo E.length ec, .slice ro rl rc], .int .i64 s] ww fun e w' => e = .returned (.bool (hasB E s)) ∧ Same0 ww w') := fun ww hk => CB.out ww s hk
    rw [if_neg (by simp)] at HF
    clear HI clt CB
    cases hb : hasB E s with
    | true =>
      rw [hb] at CB2
      rw [if_pos hb] at HF
      rw [HF.out]
      clear HF hb
      go_enter Tryz.func92, Tryz.ntmps92
      go_upto_region 1 with fail
      rw [← hW1]
      clear hW1
      go_wp2_with (first
        | (go_at_call 125; refine C1.mono ?_; rintro e w2 ⟨rfl, k2⟩; have C3 := C2.out w2 (KW.trans' k2); obtain ⟨y0, y1, y2, y3, y4, y5⟩ := BX.out w2 k2)
        | (go_at_call 126; refine C3.mono ?_; rintro e w3 ⟨rfl, k3⟩; have k13 := k2.trans' k3; obtain ⟨z0, z1, z2, z3, z4, z5⟩ := BX.out w3 k13; have C4 := CB2.out w3 (KW.trans' k13))
        | (go_at_call 57; refine C4.mono ?_; rintro e w4 ⟨rfl, k4⟩; have k14 := k13.trans' k4; have C5 := CC.out w4 (KW.trans' k14))
        | (go_at_call 70; refine C5.mono ?_; rintro e w5 ⟨zo, zc, rfl, hr, k5⟩; have k15 := k14.trans' k5; obtain ⟨⟨r0, r1, r2, r3⟩, f0, f1, f2, f3⟩ := RC.out w5 k15))
      obtain ⟨⟨g0, g1, g2, g3⟩, kk, ks⟩ := PUT.out w5 (.int .i64 3) (.int .i64 0) (.slice zo p.length zc) (.int .i64 nd) k15
      have z5 := (KW.trans' k14).size
      have zz := k14.size
      have zW : w.heap.size + 1 < W1.heap.size := by
        obtain ⟨⟨q0, _⟩, _⟩ := RC.out W1 (Kept.refl _ _)
        exact World.block_lt_of_cell? _ _ q0
      refine bodyPost_ret (v := .tuple #[.agg #[.int .i64 3, .int .i64 0, .slice zo p.length zc, .int .i64 nd], .int .i64 0, .int .i64 0]) (by simp [results, Tryz.results92, go_sem, g0, g1, g2, g3]) rfl ⟨zo, zc, rfl, ?_, ks⟩
      have hr2 := kk.row hr.out (fun k e q => by
        rcases hr.out.2 with ⟨e1, _⟩ | ⟨g, _, _, e1, e2, _⟩
        · rw [e1] at e; simp [Value.ownBlock] at e
        · rw [e1] at e; simp only [Value.ownBlock, Option.some.injEq] at e; omega)
      exact row_mono hr2 z5
    | false =>
      rw [hb] at CB2
      rw [if_neg (by rw [hb]; simp)] at HF
      rw [HF.out]
      clear HF hb CC
      go_enter Tryz.func92, Tryz.ntmps92
      go_upto_region 1 with fail
      rw [← hW1]
      clear hW1
      go_wp2_with (first
        | (go_at_call 125; refine C1.mono ?_; rintro e w2 ⟨rfl, k2⟩; have C3 := C2.out w2 (KW.trans' k2); obtain ⟨y0, y1, y2, y3, y4, y5⟩ := BX.out w2 k2)
        | (go_at_call 126; refine C3.mono ?_; rintro e w3 ⟨rfl, k3⟩; have k13 := k2.trans' k3; obtain ⟨z0, z1, z2, z3, z4, z5⟩ := BX.out w3 k13; have C4 := CB2.out w3 (KW.trans' k13))
        | (go_at_call 57; refine C4.mono ?_; rintro e w4 ⟨rfl, k4⟩; have k14 := k13.trans' k4; obtain ⟨⟨r0, r1, r2, r3⟩, f0, f1, f2, f3⟩ := RC.out w4 k14))
      obtain ⟨⟨g0, g1, g2, g3⟩, kk, ks⟩ := PUT.out w4 (.int .i64 0) (.int .i64 0) (.slice none 0 0) (.int .i64 0) k14
      exact bodyPost_ret (v := .tuple #[.agg #[.int .i64 0, .int .i64 0, .slice none 0 0, .int .i64 0], .int .i64 (j : Int), .int .i64 0]) (by simp [results, Tryz.results92, go_sem, g0, g1, g2, g3]) rfl ⟨rfl, ks⟩
end Go.Proofs.YthamjjhioafkjaaGreat
