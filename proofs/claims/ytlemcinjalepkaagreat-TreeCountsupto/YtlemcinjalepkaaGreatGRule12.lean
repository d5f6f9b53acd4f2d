import Derived.Test.YtlemcinjalepkaaGreatGRule09
import Derived.Test.YtlemcinjalepkaaGreatGRule11
import Derived.Test.YtlemcinjalepkaaGreatGRule04
import Derived.Test.YtlemcinjalepkaaGreatGRule02
import Derived.Test.YtlemcinjalepkaaGreatProg
import Derived.KernelRfl
import Derived.Handy
import Derived.LaidEql
import Derived.Stop.Asserts
import Derived.RowKitTokens
import Derived.Test.YtlemcinjalepkaaGreatGRule03
import Derived.Test.YtlemcinjalepkaaGreatGRule07
import Derived.SizedLaws
import Derived.Deep.RegionHeld3
/- Rules in plain words: the eight things that are asked of a rule that would come behind others, and what is told of the first one that fails. -/
namespace Go.Proofs.YtlemcinjalepkaaGreat
set_option linter.unusedVariables false
/-- A rule: its left side, its right side. -/
abbrev Ru := List Int × List Int
def defB (L : List Sym) (n : Int) : Bool := if n < 0 then false else match L[n.toNat]? with | some x => x.df | none => false
theorem defB_at {L : List Sym} {i : Nat} (h : i < L.length) : defB L (i : Int) = L[i].df := by
  rw [defB, if_neg (by omega)]; simp [h]
theorem defB_no {L : List Sym} {n : Int} (h : n < 0 ∨ (L.length : Int) ≤ n) : defB L n = false := by
  unfold defB
  rcases h with h | h
  · simp [h]
  · rw [if_neg (by omega), List.getElem?_eq_none (by omega)]
/-- How many variables stand there. -/
def negN (t : List Int) : Nat := t.countP (fun n => decide (n < 0))
theorem negN_take {t : List Int} {k : Nat} (h : k < t.length) : negN (t.take (k + 1)) = negN (t.take k) + if t[k] < 0 then 1 else 0 := by
  unfold negN
  rw [List.take_add_one, List.getElem?_eq_getElem h, List.countP_append]
  simp [List.countP_cons]
theorem negN_le (t : List Int) : negN t ≤ t.length := List.countP_le_length
/-- A variable that x has and l has not. -/
def freeB (l : List Int) (n : Int) : Bool := decide (n < 0) && !decide (n ∈ l)
/-- Have the left sides of a, that is ahead, and x an instance in common? -/
def meetB (L : List Sym) (a x : List Int) : Bool := !claB L a x && decide (claE L a x = 0)
/-- Does the rule x meet what is asked at j: of N rules in all, behind those of A? -/
def askB (L : List Sym) (N : Nat) (A : List Ru) (x : Ru) : Nat → Bool
  | 0 => decide (N ≤ 100)
  | 1 => decide (checkE L x.1 = 0) && decide (checkE L x.2 = 0)
  | 2 => decide (x.1.length ≤ 200) && decide (x.2.length ≤ 200)
  | 3 => defB L (x.1.headD (-1))
  | 4 => decide (negN x.1 = (varsL x.1).length)
  | 5 => x.1.tail.all (fun n => !defB L n)
  | 6 => x.2.all (fun n => !freeB x.1 n)
  | _ => A.all (fun a => !meetB L a.1 x.1)
/-- That of the rule of the number n in l, behind the rules of own. -/
def ckB (L : List Sym) (own l : List Ru) (j n : Nat) : Bool := askB L (own.length + l.length) (own ++ l.take n) (l.getD n ([], [])) j
/-- All rules of l meet what is asked ahead of j, and at j those ahead of n. -/
def Upto (L : List Sym) (own l : List Ru) (j n : Nat) : Prop := (∀ i, i < j → ∀ m, m < l.length → ckB L own l i m = true) ∧ ∀ m, m < n → m < l.length → ckB L own l j m = true
/-- What is told of it. -/
def wrongL (L : List Sym) (own l : List Ru) (j n : Nat) : List (Int × Int) :=
  if j = 1 then [(71, (n : Int)), (if checkE L (l.getD n ([], [])).1 = 0 then checkE L (l.getD n ([], [])).2 else checkE L (l.getD n ([], [])).1, -1)]
  else if j = 7 then [(77, (n : Int)), (78, (((own ++ l.take n).findIdx (fun a => meetB L a.1 (l.getD n ([], [])).1) : Nat) : Int))]
  else [((70 + j : Nat), (n : Int))]
/-- The first thing that fails, or nothing: and what is told then. -/
def Ans (L : List Sym) (own l : List Ru) (ws : List (Int × Int)) : Prop :=
  (ws = [] ∧ Upto L own l 8 0) ∨ ∃ j n, j < 8 ∧ n < l.length ∧ Upto L own l j n ∧ ckB L own l j n = false ∧ ws = wrongL L own l j n
theorem Upto.nil (L : List Sym) (own l : List Ru) : Upto L own l 0 0 := ⟨fun i hi => absurd hi (by omega), fun m hm => absurd hm (by omega)⟩
theorem Upto.step {L : List Sym} {own l : List Ru} {j n : Nat} (h : Upto L own l j n) (hc : ckB L own l j n = true) : Upto L own l j (n + 1) :=
  ⟨h.1, fun m hm hl => by
    by_cases e : m = n
    · subst e; exact hc
    · exact h.2 m (by omega) hl⟩
theorem Upto.next {L : List Sym} {own l : List Ru} {j n : Nat} (h : Upto L own l j n) (hn : l.length ≤ n) : Upto L own l (j + 1) 0 :=
  ⟨fun i hi m hm => by
    by_cases e : i = j
    · subst e; exact h.2 m (by omega) hm
    · exact h.1 i (by omega) m hm, fun m hm => absurd hm (by omega)⟩
theorem Upto.at {L : List Sym} {own l : List Ru} {j n i m : Nat} (h : Upto L own l j n) (hi : i < j) (hm : m < l.length) : ckB L own l i m = true := h.1 i hi m hm
theorem wrongL_ne (L : List Sym) (own l : List Ru) (j n : Nat) : wrongL L own l j n ≠ [] := by
  unfold wrongL
  split
  · simp
  · split <;> simp
theorem Ans.uniq {L : List Sym} {own l : List Ru} {a b : List (Int × Int)} (h : Ans L own l a) (k : Ans L own l b) : a = b := by
  have key : ∀ {j n j' n' : Nat}, n < l.length → n' < l.length → Upto L own l j n → ckB L own l j n = false → Upto L own l j' n' → ckB L own l j' n' = false → j = j' ∧ n = n' := by
    intro j n j' n' h1 h2 u1 c1 u2 c2
    have e : j = j' := by
      rcases Nat.lt_trichotomy j j' with q | q | q
      · have := u2.1 j q n h1; rw [c1] at this; cases this
      · exact q
      · have := u1.1 j' q n' h2; rw [c2] at this; cases this
    subst e
    refine ⟨rfl, ?_⟩
    rcases Nat.lt_trichotomy n n' with q | q | q
    · have := u2.2 n q h1; rw [c1] at this; cases this
    · exact q
    · have := u1.2 n' q h2; rw [c2] at this; cases this
  rcases h with ⟨rfl, u⟩ | ⟨j, n, h1, h2, u, c, rfl⟩
  · rcases k with ⟨rfl, _⟩ | ⟨j, n, h1, h2, u', c, rfl⟩
    · rfl
    · have := u.1 j h1 n h2; rw [c] at this; cases this
  · rcases k with ⟨rfl, u'⟩ | ⟨j', n', h1', h2', u', c', rfl⟩
    · have := u'.1 j h1 n h2; rw [c] at this; cases this
    · obtain ⟨rfl, rfl⟩ := key h2 h2' u c u' c'; rfl
theorem Ans.nil {L : List Sym} {own l : List Ru} (h : Ans L own l []) : ∀ j, j < 8 → ∀ n, n < l.length → ckB L own l j n = true := by
  rcases h with ⟨_, u⟩ | ⟨j, n, _, _, _, _, e⟩
  · exact fun j hj n hn => u.1 j hj n hn
  · exact absurd e.symm (wrongL_ne _ _ _ _ _)
theorem Ans.of_all {L : List Sym} {own l : List Ru} (h : ∀ j, j < 8 → ∀ n, n < l.length → ckB L own l j n = true) : Ans L own l [] := .inl ⟨rfl, h, fun m hm => absurd hm (by omega)⟩
/-! ### instances in common, both ways round -/
theorem claB_swap {L : List Sym} {a b : List Int} (ha : checkE L a = 0) (hb : checkE L b = 0) : claB L a b = claB L b a := by
  have one : ∀ {a b : List Int}, checkE L a = 0 → checkE L b = 0 → (solF L (jl a b 99) a.length).isNone = true → (solF L (jl b a 99) b.length).isNone = true := by
    intro a b ha hb h
    rcases com_u (ap := 99) (Nat.le_refl _) hb ha with e | ⟨u, hu⟩
    · have e' : solF L (jl b a 99) b.length = none := e
      rw [e']; rfl
    · obtain ⟨v, ⟨ld, k, h1, _⟩, _⟩ := com_swap ha hb hu
      rw [h1] at h; cases h
  have e1 : claE L a b = 0 := by simp [claE, ha, hb]
  have e2 : claE L b a = 0 := by simp [claE, ha, hb]
  unfold claB
  rw [e1, e2]
  simp only [decide_true, Bool.true_and]
  cases h1 : (solF L (jl a b 99) a.length).isNone with
  | true => exact (one ha hb h1).symm
  | false =>
    cases h2 : (solF L (jl b a 99) b.length).isNone with
    | false => rfl
    | true => have := one hb ha h2; rw [h1] at this; cases this
theorem meetB_eq {L : List Sym} {a x : List Int} (ha : checkE L a = 0) (hx : checkE L x = 0) : meetB L a x = !claB L x a := by
  have e1 : claE L a x = 0 := by simp [claE, ha, hx]
  rw [meetB, e1, claB_swap ha hx]; simp
/-! ### a signature that grows -/
theorem arN_grow {L : List Sym} {x : Int} (h : x < (L.length : Int)) (M : List Sym) : arN (L ++ M) x = arN L x := by
  unfold arN
  split
  · rfl
  · rw [List.getElem?_append_left (by omega)]
theorem need_grow {L : List Sym} (M : List Sym) : ∀ (t : List Int) (k : Nat), (∀ x ∈ t, x < (L.length : Int)) → need (L ++ M) k t = need L k t
  | [], k, _ => by cases k <;> rfl
  | x :: r, 0, _ => rfl
  | x :: r, k + 1, h => by
    rw [need, need, arN_grow (h x (by simp))]
    exact need_grow M r _ (fun y hy => h y (by simp [hy]))
theorem check_grow {L : List Sym} {t : List Int} (h : checkE L t = 0) (M : List Sym) : checkE (L ++ M) t = 0 := by
  obtain ⟨h1, h2, h3⟩ := checkE_zero.1 h
  have h4 := badE_zero.1 h2
  refine checkE_zero.2 ⟨h1, badE_zero.2 (fun x hx => ⟨?_, (h4 x hx).2⟩), ?_⟩
  · have := (h4 x hx).1; simp; omega
  · show need _ _ _ = _
    rw [need_grow M t 1 (fun x hx => (h4 x hx).1)]; exact h3
/-! ### together, and one by one -/
theorem ck_one (L : List Sym) (own l : List Ru) {j n : Nat} (hn : n < l.length) (hj : j ≠ 0) : ckB L (own ++ l.take n) [l[n]] j 0 = ckB L own l j n := by
  have e1 : l.getD n ([], []) = l[n] := by simp [List.getD, hn]
  have e2 : ([l[n]] : List Ru).getD 0 ([], []) = l[n] := rfl
  unfold ckB
  rw [e1, e2, List.take_zero, List.append_nil]
  match j, hj with
  | 1, _ => rfl
  | 2, _ => rfl
  | 3, _ => rfl
  | 4, _ => rfl
  | 5, _ => rfl
  | 6, _ => rfl
  | j + 7, _ => rfl
theorem all_of_each {L : List Sym} {own l : List Ru} (h : ∀ n (hn : n < l.length), Ans L (own ++ l.take n) [l[n]] []) : Ans L own l [] := by
  refine Ans.of_all (fun j hj n hn => ?_)
  by_cases e : j = 0
  · subst e
    have h1 : 0 < l.length := by omega
    have := (h (l.length - 1) (by omega)).nil 0 (by omega) 0 (by simp)
    simp [ckB, askB] at this ⊢
    omega
  · rw [← ck_one L own l hn e]
    exact (h n hn).nil j hj 0 (by simp)
theorem each_of_all {L : List Sym} {own l : List Ru} (h : Ans L own l []) {n : Nat} (hn : n < l.length) : Ans L (own ++ l.take n) [l[n]] [] := by
  refine Ans.of_all (fun j hj m hm => ?_)
  obtain rfl : m = 0 := by simp at hm; omega
  by_cases e : j = 0
  · subst e
    have := h.nil 0 (by omega) n hn
    simp [ckB, askB] at this ⊢
    omega
  · rw [ck_one L own l hn e]
    exact h.nil j hj n hn
end Go.Proofs.YtlemcinjalepkaaGreat
/- Errors in memory: Faults one within the other, the last of them of an Errno alone, perhaps; the walks of errors.Is and of the laws' Same at them. -/
namespace Go.Proofs.YtlemcinjalepkaaGreat
open Go.RowKit Go.Extern.Stop Go.Stop Go.Extern
set_option linter.unusedVariables false
set_option maxRecDepth 100000
/-! ### closed facts -/
theorem is_typeOf (v : Value) (w : World) : (Extern.ReflectliteType.typeOf #[.iface 54 v]).run Tryz.prog w = .ok (.iface 209 (.agg #[.pointer (some ⟨0, 54, none⟩)])) w := by kernel_rfl
theorem is_comparable (w : World) : (callFunc 185 #[.agg #[.pointer (some ⟨0, 54, none⟩)]]).run Tryz.prog w = .ok (.value (.bool true)) w :=
  (@run_callFunc_extern Tryz.prog 185 _ (Extern.ReflectliteType.method fun t => do Extern.Rtype.noPackHeld "Comparable" t; pure (.bool (← typeInfo t).comparable)) Tryz.func185 (by kernel_rfl) (by kernel_rfl) (by kernel_rfl) (by kernel_rfl) _ w).trans (by kernel_rfl)
theorem is_mComparable (v : Value) (w : World) : (Go.method 377 209 v "Comparable").run Tryz.prog w = .ok (185, v) w := by kernel_rfl
theorem is_noIs (v : Value) (xT : TypeId) (w : World) : (Instr.typeAssert (.iface 54 v) xT 211 true).run Tryz.prog w = .ok (.tuple #[.nilIface, .bool false]) w := run_typeAssert_lacksB Tryz.underlying211 (by kernel_rfl) (by kernel_rfl) v xT w
theorem is_noUnwrap (v : Value) (xT : TypeId) (w : World) : (Instr.typeAssert (.iface 54 v) xT 214 true).run Tryz.prog w = .ok (.tuple #[.nilIface, .bool false]) w := run_typeAssert_lacksB Tryz.underlying214 (by kernel_rfl) (by kernel_rfl) v xT w
theorem is_noUnwraps (v : Value) (xT : TypeId) (w : World) : (Instr.typeAssert (.iface 54 v) xT 215 true).run Tryz.prog w = .ok (.tuple #[.nilIface, .bool false]) w := run_typeAssert_lacksB Tryz.underlying215 (by kernel_rfl) (by kernel_rfl) v xT w
theorem is_hasIs (v : Value) (xT : TypeId) (w : World) : (Instr.typeAssert (.iface 91 v) xT 211 true).run Tryz.prog w = .ok (.tuple #[.iface 91 v, .bool true]) w := run_typeAssert_hasB Tryz.underlying211 (by kernel_rfl) v xT w
theorem is_hasUnwrap (v : Value) (xT : TypeId) (w : World) : (Instr.typeAssert (.iface 91 v) xT 214 true).run Tryz.prog w = .ok (.tuple #[.iface 91 v, .bool true]) w := run_typeAssert_hasB Tryz.underlying214 (by kernel_rfl) v xT w
theorem is_mIs (v : Value) (w : World) : (Go.method 377 91 v "Is").run Tryz.prog w = .ok (180, v) w := by kernel_rfl
theorem is_mUnwrap (v : Value) (w : World) : (Go.method 377 91 v "Unwrap").run Tryz.prog w = .ok (181, v) w := by kernel_rfl
theorem is_eqE (a b : Int) (w : World) : (binOp .eql 37 (.iface 54 (.int .i64 a)) (.iface 54 (.int .i64 b))).run Tryz.prog w = .ok (.bool (a == b)) w := by kernel_rfl
theorem is_eqF (v u : Value) (w : World) : (binOp .eql 37 (.iface 91 v) (.iface 54 u)).run Tryz.prog w = .ok (.bool false) w := by kernel_rfl
theorem is_asE (v : Value) (xT : TypeId) (w : World) : (Instr.typeAssert (.iface 54 v) xT 54 true).run Tryz.prog w = .ok (.tuple #[v, .bool true]) w := by kernel_rfl
theorem is_nilE (v : Value) (w : World) : (binOp .eql 37 .nilIface (.iface 54 v)).run Tryz.prog w = .ok (.bool false) w := by kernel_rfl
/-! ### errors in memory -/
/-- v is nil, or a Fault of the first pair with the rest within it; a place of -1: an Errno alone. -/
def FltAt (w : World) : List (Int × Int) → Value → Prop
  | [], v => v = .nilIface
  | (c, p) :: r, v => (p = -1 ∧ r = [] ∧ v = .iface 54 (.int .i64 c)) ∨ (p ≠ -1 ∧ ∃ b u, v = .iface 91 (.pointer (some ⟨b, 0, none⟩)) ∧ w.heap[b]? = some (.cells #[.int .i64 c, .int .i64 p, u] 93 (0, 0)) ∧ FltAt w r u)
theorem FltAt.same {w w' : World} (hk : Same0 w w') : ∀ {ws : List (Int × Int)} {v : Value}, FltAt w ws v → FltAt w' ws v
  | [], _, h => h
  | (c, p) :: r, v, h => by
    rcases h with h | ⟨h0, b, u, h1, h2, h3⟩
    · exact .inl h
    · exact .inr ⟨h0, b, u, h1, hk.at0 h2, FltAt.same hk h3⟩
theorem fIs_any {w : World} {b : Nat} {c p : Int} {u : Value} (h : w.heap[b]? = some (.cells #[.int .i64 c, .int .i64 p, u] 93 (0, 0))) (d : Int) :
    Calls Tryz.prog 180 #[.pointer (some ⟨b, 0, none⟩), .iface 54 (.int .i64 d)] w fun e w' => e = .returned (.bool (d == c)) ∧ w' = w := by
  have aE := is_asE
  have b0 := cellAt h 0
  simp only [List.getElem?_toArray, List.getElem?_cons_zero] at b0
  clear h
  by_cases hd : d = c
  · have e1 : (d == c) = true := by simpa using hd
    go_enter Tryz.func180, Tryz.ntmps180
    go_wp2
    go_ret
    exact ⟨by rw [e1]; rfl, rfl⟩
  · have e1 : (d == c) = false := by simpa using hd
    go_enter Tryz.func180, Tryz.ntmps180
    go_wp2
    go_ret
    exact ⟨by rw [e1]; rfl, rfl⟩
theorem fUnwrap_any {w : World} {b : Nat} {c p : Int} {u : Value} (h : w.heap[b]? = some (.cells #[.int .i64 c, .int .i64 p, u] 93 (0, 0))) :
    Calls Tryz.prog 181 #[.pointer (some ⟨b, 0, none⟩)] w fun e w' => e = .returned u ∧ w' = w := by
  have b0 := cellAt h 2
  simp only [List.getElem?_toArray, List.getElem?_cons_zero, List.getElem?_cons_succ] at b0
  clear h
  go_enter Tryz.func181, Tryz.ntmps181
  go_wp2
  go_ret
  exact ⟨rfl, rfl⟩
/-- An Errno alone. -/
theorem is_one (a d : Int) (w : World) : Calls Tryz.prog 94 #[.iface 54 (.int .i64 a), .iface 54 (.int .i64 d)] w fun e w' => e = .returned (.bool (a == d)) ∧ w' = w := by
  have h8 := @run_callFunc_extern Tryz.prog 123 _ Extern.ReflectliteType.typeOf Tryz.func123 (by kernel_rfl) (by kernel_rfl) (by kernel_rfl) (by kernel_rfl)
  have tT := is_typeOf
  have cT := is_comparable
  have mR := is_mComparable
  have nE := is_noIs
  have uE := is_noUnwrap
  have vE := is_noUnwraps
  by_cases hd : a = d
  · subst hd
    have e1 : (a == a) = true := by simp
    have eq := is_eqE a a
    rw [e1] at eq ⊢
    clear e1
    go_enter Tryz.func94, Tryz.ntmps94
    go_wp2
    refine wp_loop_rounds 1 ?_
    rw [rounds_succ]
    go_wp2
    go_ret
    exact ⟨rfl, rfl⟩
  · have e1 : (a == d) = false := by simpa using hd
    have eq := is_eqE a d
    rw [e1] at eq ⊢
    clear hd e1
    go_enter Tryz.func94, Tryz.ntmps94
    go_wp2
    refine wp_loop_rounds 1 ?_
    rw [rounds_succ]
    go_wp2
    go_ret
    exact ⟨rfl, rfl⟩
/-- A Fault: what it bears, then what it comes of. -/
theorem is_fault {w : World} {b : Nat} {c p : Int} (h : w.heap[b]? = some (.cells #[.int .i64 c, .int .i64 p, .nilIface] 93 (0, 0))) (d : Int) :
    Calls Tryz.prog 94 #[.iface 91 (.pointer (some ⟨b, 0, none⟩)), .iface 54 (.int .i64 d)] w fun e w' => e = .returned (.bool (d == c)) ∧ w' = w := by
  have h8 := @run_callFunc_extern Tryz.prog 123 _ Extern.ReflectliteType.typeOf Tryz.func123 (by kernel_rfl) (by kernel_rfl) (by kernel_rfl) (by kernel_rfl)
  have tT := is_typeOf
  have cT := is_comparable
  have mR := is_mComparable
  have nE := is_hasIs
  have uE := is_hasUnwrap
  have m1 := is_mIs
  have m2 := is_mUnwrap
  have eq := is_eqF
  have c1 := fIs_any h d
  have c2 := fUnwrap_any h
  clear h
  generalize (d == c) = r at *
  cases r
  · go_enter Tryz.func94, Tryz.ntmps94
    go_wp2
    refine wp_loop_rounds 1 ?_
    rw [rounds_succ]
    go_wp2_with (first | (go_at_call 180; refine c1.mono ?_; rintro e w' ⟨rfl, rfl⟩) | (go_at_call 181; refine c2.mono ?_; rintro e w' ⟨rfl, rfl⟩))
    go_ret
    exact ⟨rfl, rfl⟩
  · go_enter Tryz.func94, Tryz.ntmps94
    go_wp2
    refine wp_loop_rounds 1 ?_
    rw [rounds_succ]
    go_wp2_with (first | (go_at_call 180; refine c1.mono ?_; rintro e w' ⟨rfl, rfl⟩) | (go_at_call 181; refine c2.mono ?_; rintro e w' ⟨rfl, rfl⟩))
    go_ret
    exact ⟨rfl, rfl⟩
set_option maxHeartbeats 4000000 in
theorem is_fault_one {w : World} {b : Nat} {c p : Int} {k : Int} (h : w.heap[b]? = some (.cells #[.int .i64 c, .int .i64 p, .iface 54 (.int .i64 k)] 93 (0, 0))) (d : Int) :
    Calls Tryz.prog 94 #[.iface 91 (.pointer (some ⟨b, 0, none⟩)), .iface 54 (.int .i64 d)] w fun e w' => e = .returned (.bool ((d == c) || k == d)) ∧ w' = w := by
  have h8 := @run_callFunc_extern Tryz.prog 123 _ Extern.ReflectliteType.typeOf Tryz.func123 (by kernel_rfl) (by kernel_rfl) (by kernel_rfl) (by kernel_rfl)
  have tT := is_typeOf
  have cT := is_comparable
  have mR := is_mComparable
  have nE := is_hasIs
  have uE := is_hasUnwrap
  have m1 := is_mIs
  have m2 := is_mUnwrap
  have eq := is_eqF
  have c1 := fIs_any h d
  have c2 := fUnwrap_any h
  have eqk := is_eqE k d w
  have nE' := is_noIs
  have uE' := is_noUnwrap
  have vE' := is_noUnwraps
  clear h
  generalize (d == c) = r at *
  cases r
  · simp only [Bool.false_or]
    generalize (k == d) = q at *
    cases q
    · go_enter Tryz.func94, Tryz.ntmps94
      go_wp2
      refine wp_loop_rounds 2 ?_
      rw [rounds_succ]
      go_wp2_with (first | (go_at_call 180; refine c1.mono ?_; rintro e w' ⟨rfl, rfl⟩) | (go_at_call 181; refine c2.mono ?_; rintro e w' ⟨rfl, rfl⟩))
      rw [rounds_succ]
      go_wp2
      go_ret
      exact ⟨rfl, rfl⟩
    · go_enter Tryz.func94, Tryz.ntmps94
      go_wp2
      refine wp_loop_rounds 2 ?_
      rw [rounds_succ]
      go_wp2_with (first | (go_at_call 180; refine c1.mono ?_; rintro e w' ⟨rfl, rfl⟩) | (go_at_call 181; refine c2.mono ?_; rintro e w' ⟨rfl, rfl⟩))
      rw [rounds_succ]
      go_wp2
      go_ret
      exact ⟨rfl, rfl⟩
  · simp only [Bool.true_or]
    clear c2
    go_enter Tryz.func94, Tryz.ntmps94
    go_wp2
    refine wp_loop_rounds 2 ?_
    rw [rounds_succ]
    go_wp2_with (first | (go_at_call 180; refine c1.mono ?_; rintro e w' ⟨rfl, rfl⟩))
    go_ret
    exact ⟨rfl, rfl⟩
set_option maxHeartbeats 4000000 in
theorem is_fault_two {w : World} {b : Nat} {c p : Int} {b' : Nat} {c' p' : Int} (h : w.heap[b]? = some (.cells #[.int .i64 c, .int .i64 p, .iface 91 (.pointer (some ⟨b', 0, none⟩))] 93 (0, 0))) (h' : w.heap[b']? = some (.cells #[.int .i64 c', .int .i64 p', .nilIface] 93 (0, 0))) (d : Int) :
    Calls Tryz.prog 94 #[.iface 91 (.pointer (some ⟨b, 0, none⟩)), .iface 54 (.int .i64 d)] w fun e w' => e = .returned (.bool ((d == c) || d == c')) ∧ w' = w := by
  have h8 := @run_callFunc_extern Tryz.prog 123 _ Extern.ReflectliteType.typeOf Tryz.func123 (by kernel_rfl) (by kernel_rfl) (by kernel_rfl) (by kernel_rfl)
  have tT := is_typeOf
  have cT := is_comparable
  have mR := is_mComparable
  have nE := is_hasIs
  have uE := is_hasUnwrap
  have m1 := is_mIs
  have m2 := is_mUnwrap
  have eq := is_eqF
  have c1 := fIs_any h d
  have c2 := fUnwrap_any h
  have c3 := fIs_any h' d
  have c4 := fUnwrap_any h'
  clear h'
  clear h
  generalize (d == c) = r at *
  cases r
  · simp only [Bool.false_or]
    generalize (d == c') = q at *
    cases q
    · go_enter Tryz.func94, Tryz.ntmps94
      go_wp2
      refine wp_loop_rounds 2 ?_
      rw [rounds_succ]
      go_wp2_with (first | (go_at_call 180; refine c1.mono ?_; rintro e w' ⟨rfl, rfl⟩) | (go_at_call 181; refine c2.mono ?_; rintro e w' ⟨rfl, rfl⟩))
      rw [rounds_succ]
      go_wp2_with (first | (go_at_call 180; refine c3.mono ?_; rintro e w' ⟨rfl, rfl⟩) | (go_at_call 181; refine c4.mono ?_; rintro e w' ⟨rfl, rfl⟩))
      go_ret
      exact ⟨rfl, rfl⟩
    · go_enter Tryz.func94, Tryz.ntmps94
      go_wp2
      refine wp_loop_rounds 2 ?_
      rw [rounds_succ]
      go_wp2_with (first | (go_at_call 180; refine c1.mono ?_; rintro e w' ⟨rfl, rfl⟩) | (go_at_call 181; refine c2.mono ?_; rintro e w' ⟨rfl, rfl⟩))
      rw [rounds_succ]
      go_wp2_with (first | (go_at_call 180; refine c3.mono ?_; rintro e w' ⟨rfl, rfl⟩) | (go_at_call 181; refine c4.mono ?_; rintro e w' ⟨rfl, rfl⟩))
      go_ret
      exact ⟨rfl, rfl⟩
  · simp only [Bool.true_or]
    clear c2
    go_enter Tryz.func94, Tryz.ntmps94
    go_wp2
    refine wp_loop_rounds 2 ?_
    rw [rounds_succ]
    go_wp2_with (first | (go_at_call 180; refine c1.mono ?_; rintro e w' ⟨rfl, rfl⟩))
    go_ret
    exact ⟨rfl, rfl⟩
theorem is_none (d : Int) (w : World) : Calls Tryz.prog 94 #[.nilIface, .iface 54 (.int .i64 d)] w fun e w' => e = .returned (.bool false) ∧ w' = w := by
  have hn := is_nilE
  go_enter Tryz.func94, Tryz.ntmps94
  go_wp2
  go_ret
  exact ⟨rfl, rfl⟩
/-- errors.Is: one of the numbers that the chain bears. -/
def bears (ws : List (Int × Int)) (d : Int) : Bool := decide (d ∈ ws.map Prod.fst)
theorem is_any {w : World} {ws : List (Int × Int)} {v : Value} (h : FltAt w ws v) (h2 : ws.length ≤ 2) (d : Int) :
    Calls Tryz.prog 94 #[v, .iface 54 (.int .i64 d)] w fun e w' => e = .returned (.bool (bears ws d)) ∧ w' = w := by
  match ws, h2 with
  | [], _ =>
    obtain rfl : v = .nilIface := h
    exact is_none d w
  | [(c, p)], _ =>
    rcases h with ⟨rfl, _, rfl⟩ | ⟨_, b, u, rfl, h1, hu⟩
    · refine (is_one c d w).mono ?_
      rintro e w' ⟨rfl, rfl⟩
      refine ⟨ret_bool ?_, rfl⟩
      by_cases e : d = c
      · simp [bears, e]
      · simp [bears, e]; omega
    · obtain rfl : u = .nilIface := hu
      refine (is_fault h1 d).mono ?_
      rintro e w' ⟨rfl, rfl⟩
      refine ⟨ret_bool ?_, rfl⟩
      by_cases e : d = c <;> simp [bears, e]
  | [(c, p), (c', p')], _ =>
    rcases h with ⟨_, e, _⟩ | ⟨_, b, u, rfl, h1, hu⟩
    · cases e
    · rcases hu with ⟨rfl, _, rfl⟩ | ⟨_, b', u', rfl, h1', hu'⟩
      · refine (is_fault_one h1 d).mono ?_
        rintro e w' ⟨rfl, rfl⟩
        refine ⟨ret_bool ?_, rfl⟩
        by_cases e : d = c
        · simp [bears, e]
        · by_cases e' : d = c'
          · simp [bears, e']
          · have : (c' == d) = false := by simp; omega
            simp [bears, e, e', this]
      · obtain rfl : u' = .nilIface := hu'
        refine (is_fault_two h1 h1' d).mono ?_
        rintro e w' ⟨rfl, rfl⟩
        refine ⟨ret_bool ?_, rfl⟩
        by_cases e : d = c
        · simp [bears, e]
        · by_cases e' : d = c' <;> simp [bears, e, e']
end Go.Proofs.YtlemcinjalepkaaGreat
/- The argument of layer 2's statements, opened: symbols, a list, a place, another list, a path. -/
namespace Go.Proofs.YtlemcinjalepkaaGreat
set_option linter.unusedVariables false
open Go.RowKit Go.Deep
/-- A list of numbers that came in. -/
structure Arg (w : World) (ao : Option Addr) (xs : List Int) (cap : Nat) : Prop where
  at' : IntsAt w ao xs
  cap' : xs.length ≤ cap
  nil : ao = none → xs.length = 0 ∧ cap = 0
  size : xs.length * 8 ≤ 140737488351232
section
variable {H : Type} {enc : TypeId × Value → H} {w : World} {spare : Nat → Bool} {held : Bool}
theorem trod_struct5 {P : Program} {base : Nat} {t : TypeId} {f0 f1 f2 f3 f4 : Field} {fuel : Nat} {cs : List Value} {x : DataW H × List MemPlace} (ht : P.underlying t = some (.struct #[f0, f1, f2, f3, f4])) (h : DataW.trod enc P w base spare held fuel t cs = some x) :
    ∃ y0 y1 y2 y3 y4 n, x.1 = .agg [y0.1, y1.1, y2.1, y3.1, y4.1] ∧ cs.length = P.cellsOf t ∧ DataW.trod enc P w base spare held n f0.type ((cs.drop f0.offset).take (P.cellsOf f0.type)) = some y0 ∧
      DataW.trod enc P w base spare held n f1.type ((cs.drop f1.offset).take (P.cellsOf f1.type)) = some y1 ∧ DataW.trod enc P w base spare held n f2.type ((cs.drop f2.offset).take (P.cellsOf f2.type)) = some y2 ∧
      DataW.trod enc P w base spare held n f3.type ((cs.drop f3.offset).take (P.cellsOf f3.type)) = some y3 ∧ DataW.trod enc P w base spare held n f4.type ((cs.drop f4.offset).take (P.cellsOf f4.type)) = some y4 := by
  obtain ⟨xs, n, _, rfl, hl, hlen, hf⟩ := DataW.trod_struct ht h
  match xs, hlen with
  | [y0, y1, y2, y3, y4], _ => exact ⟨y0, y1, y2, y3, y4, n, by simp, hl, by simpa using hf 0 f0 rfl, by simpa using hf 1 f1 rfl, by simpa using hf 2 f2 rfl, by simpa using hf 3 f3 rfl, by simpa using hf 4 f4 rfl⟩
theorem bytes_int : Tryz.prog.bytesOf 3 = 8 := by kernel_rfl
theorem open_ints {t fuel : Nat} {cs : List Value} {x : DataW H × List MemPlace} (ht : Tryz.prog.underlying t = some (.slice 3)) (h : DataW.trod enc Tryz.prog w 0 spare held fuel t cs = some x) (hw : ∀ n ∈ x.1.weights Tryz.prog t, n ≤ reachBytes) :
    ∃ ao cap xs, cs = [.slice ao xs.length cap] ∧ Arg w ao xs cap := by
  have h' := h
  rcases open_slice ht h with ⟨hcs, _⟩ | ⟨a, len, cap, m, n, D, Pl, hcs, _, hl, hm, hmm, rfl, hx⟩
  · exact ⟨none, 0, [], hcs, .inl rfl, Nat.le_refl _, fun _ => ⟨rfl, rfl⟩, by simp⟩
  · subst hcs
    have hsz : len * 8 ≤ 140737488351232 := by
      have := hw ((((List.range len).map D).length + ((List.range (m - len)).map fun j => D (len + j)).length) * Tryz.prog.bytesOf 3) (by simp [DataW.weights, ht])
      rw [bytes_int] at this
      simp [reachBytes] at this
      omega
    rcases open_elems ht cells_int (by omega) h' with ⟨e, _, _⟩ | ⟨a', e, hl1, hl2, hall⟩
    · cases e
    · cases e
      have each : ∀ i, i < len → ∃ z : Int, w.cell? ⟨a.block, a.off + i, none⟩ = some (.int .i64 z) := by
        intro i hi
        obtain ⟨_, _, cs, n, y, hl, hcell, hy⟩ := hall i hi
        obtain ⟨z, e1, _, _⟩ := DataW.trod_int Tryz.underlying3 hy
        subst e1
        exact ⟨z, by simpa using hcell 0 (by omega)⟩
      obtain ⟨f, hf⟩ := Classical.axiomOfChoice (fun i : Fin len => each i i.2)
      refine ⟨some a, cap, List.ofFn f, by simp, ?_, by simpa using hl, (fun e => by cases e), by simpa using hsz⟩
      by_cases h0 : len = 0
      · subst h0; exact .inl (by simp)
      · obtain ⟨ea, hlt, _⟩ := hall 0 (by omega)
        refine .inr ⟨a.block, a.off, by rw [← ea], hlt, fun i hi => ?_⟩
        have hi' : i < len := by simpa using hi
        simpa using hf ⟨i, hi'⟩
theorem cells_syms : Tryz.prog.cellsOf 23 = 1 := by kernel_rfl
theorem cells_term : Tryz.prog.cellsOf 47 = 1 := by kernel_rfl
theorem cells_ints : Tryz.prog.cellsOf 32 = 1 := by kernel_rfl
theorem slice_one {t e fuel : Nat} {c : Value} {x : DataW H × List MemPlace} (ht : Tryz.prog.underlying t = some (.slice e)) (h : DataW.trod enc Tryz.prog w 0 spare held fuel t [c] = some x) : ∃ ao len cap, c = .slice ao len cap := by
  rcases open_slice ht h with ⟨hcs, _⟩ | ⟨a, len, cap, m, n, D, Pl, hcs, _⟩
  · simp at hcs; exact ⟨_, _, _, hcs⟩
  · simp at hcs; exact ⟨_, _, _, hcs⟩
/-- What a Case holds. -/
structure CaseIs (w : World) (v : Value) (lo : Option Addr) (ll lc : Nat) (ls : List Sym) (so : Option Addr) (tc : Nat) (t : List Int) (at' : Int) (uo : Option Addr) (uc : Nat) (u : List Int) (po : Option Addr) (pc : Nat) (path : List Int) : Prop where
  eq : v = .agg #[.slice lo ll lc, .slice so t.length tc, .int .i64 at', .slice uo u.length uc, .slice po path.length pc]
  syms : SymsAt w lo ll ls
  sl : ll ≤ maxLen
  t' : Arg w so t tc
  u' : Arg w uo u uc
  p' : Arg w po path pc
end
end Go.Proofs.YtlemcinjalepkaaGreat
/- Rules and stores in memory; the walks of the smallest functions of package rules. -/
namespace Go.Proofs.YtlemcinjalepkaaGreat
set_option maxRecDepth 100000
set_option linter.unusedVariables false
open Go.RowKit
attribute [local go_sem ↓] Go.wp_at_zero Go.wp_at_succ
theorem Arg.same {w w' : World} {ao : Option Addr} {xs : List Int} {cap : Nat} (h : Arg w ao xs cap) (hk : Same0 w w') : Arg w' ao xs cap := ⟨h.at'.same hk, h.cap', h.nil, h.size⟩
/-- A rule in memory. -/
def RuAt (w : World) (b off : Nat) (x : Ru) : Prop :=
  ∃ ao ac bo bc, w.cell? ⟨b, off, none⟩ = some (.slice ao x.1.length ac) ∧ w.cell? ⟨b, off + 1, none⟩ = some (.slice bo x.2.length bc) ∧ Arg w ao x.1 ac ∧ Arg w bo x.2 bc
/-- Rules in memory. -/
def RsAt (w : World) (lo : Option Addr) (l : List Ru) : Prop :=
  l = [] ∨ ∃ b off, lo = some ⟨b, off, none⟩ ∧ b < w.heap.size ∧ ∀ i (h : i < l.length), RuAt w b (off + i * 2) l[i]
theorem RuAt.same {w w' : World} {b off : Nat} {x : Ru} (h : RuAt w b off x) (hb : b < w.heap.size) (hk : Same0 w w') : RuAt w' b off x := by
  obtain ⟨ao, ac, bo, bc, h1, h2, h3, h4⟩ := h
  exact ⟨ao, ac, bo, bc, (hk.cell (p := ⟨b, off, none⟩) hb (fun f => f)).trans h1, (hk.cell (p := ⟨b, off + 1, none⟩) hb (fun f => f)).trans h2, h3.same hk, h4.same hk⟩
theorem RsAt.same {w w' : World} {lo : Option Addr} {l : List Ru} (h : RsAt w lo l) (hk : Same0 w w') : RsAt w' lo l := by
  refine h.imp id ?_
  rintro ⟨b, off, rfl, hb, hc⟩
  exact ⟨b, off, rfl, Nat.lt_of_lt_of_le hb hk.size, fun i hi => (hc i hi).same hb hk⟩
theorem RsAt.get {w : World} {lo : Option Addr} {l : List Ru} (h : RsAt w lo l) {i : Nat} (hi : i < l.length) : ∃ b off, lo = some ⟨b, off, none⟩ ∧ b < w.heap.size ∧ RuAt w b (off + i * 2) l[i] := by
  rcases h with rfl | ⟨b, off, e, hb, hc⟩
  · simp at hi
  · exact ⟨b, off, e, hb, hc i hi⟩
/-- A store that is read. -/
structure StR (w : World) (b bs : Nat) (ro : Option Addr) (rc : Nat) (L : List Sym) (R : List Ru) : Prop where
  blk : w.heap[b]? = some (.cells #[.pointer (some ⟨bs, 0, none⟩), .slice ro R.length rc] 130 (0, 0))
  sig : Sg w.heap.size w bs L
  rs : RsAt w ro R
  nil : ro = none → rc = 0
  le : R.length ≤ 100
  ok : ∀ x ∈ R, checkE L x.1 = 0
theorem StR.same {w w' : World} {b bs : Nat} {ro : Option Addr} {rc : Nat} {L : List Sym} {R : List Ru} (h : StR w b bs ro rc L R) (hk : Same0 w w') : StR w' b bs ro rc L R :=
  ⟨hk.at0 h.blk, sg_up (h.sig.same hk) hk.size, h.rs.same hk, h.nil, h.le, h.ok⟩
theorem StR.cells {w : World} {b bs : Nat} {ro : Option Addr} {rc : Nat} {L : List Sym} {R : List Ru} (h : StR w b bs ro rc L R) : w.cell? ⟨b, 0, none⟩ = some (.pointer (some ⟨bs, 0, none⟩)) ∧ w.cell? ⟨b, 1, none⟩ = some (.slice ro R.length rc) := by
  have h0 := cellAt h.blk 0
  have h1 := cellAt h.blk 1
  simp only [List.getElem?_toArray, List.getElem?_cons_zero, List.getElem?_cons_succ] at h0 h1
  exact ⟨h0, h1⟩
theorem cell_al {w : World} {p : Addr} {v : Value} (h : w.cell? p = some v) (o : Obj) : (w.alloc o).cell? p = some v := by
  rw [World.cell?_alloc_some _ _ _ (by rw [h]; rfl), h]
theorem heap_al_al (w : World) (o o' : Obj) : ((w.alloc o).alloc o').heap[w.heap.size + 1]? = some o' := by
  have := heap_alloc_new (w.alloc o) o'
  rwa [World.size_alloc] at this
set_option maxHeartbeats 1000000 in
theorem rule_any {w : World} {b lb off len lc n : Nat} {ao bo : Option Addr} {al ac bl bc : Nat} (h0 : w.cell? ⟨lb, off + n * 2, none⟩ = some (.slice ao al ac)) (h1 : w.cell? ⟨lb, off + n * 2 + 1, none⟩ = some (.slice bo bl bc)) (hn : n < len) :
    Calls Tryz.prog 137 #[.agg #[.pointer (some ⟨b, 0, none⟩), .slice (some ⟨lb, off, none⟩) len lc, .int .i64 (n : Int)]] w fun e w' => e = .returned (.agg #[.slice ao al ac, .slice bo bl bc]) ∧ Same0 w w' := by
  have i1 : (0 : Int) ≤ (n : Int) := by omega
  have i2 : (n : Int) < (len : Int) := by omega
  have H0 := fun o o' => cell_al (cell_al h0 o) o'
  have H1 := fun o o' => cell_al (cell_al h1 o) o'
  clear h0 h1
  go_enter Tryz.func137, Tryz.ntmps137
  go_wp2
  exact bodyPost_ret (v := .agg #[.slice ao al ac, .slice bo bl bc]) (by simp [results, Tryz.results137, go_sem]) rfl ⟨rfl, ((Kept.refl _ w).alloc _).alloc _⟩
set_option maxHeartbeats 1000000 in
theorem fault_any (w : World) (b : Nat) (lo : Option Addr) (ll lc : Nat) (why : Value) (hw : why = .nilIface ∨ ∃ t v, why = .iface t v) (n : Nat) (c : Int) :
    Calls Tryz.prog 138 #[.agg #[.pointer (some ⟨b, 0, none⟩), .slice lo ll lc, .int .i64 (n : Int)], .int .i64 c, why] w fun e w' => ∃ k, e = .returned (.iface 91 (.pointer (some ⟨k, 0, none⟩))) ∧ w'.heap[k]? = some (.cells #[.int .i64 c, .int .i64 (n : Int), why] 93 (0, 0)) ∧ Same0 w w' := by
  rcases hw with rfl | ⟨t, v, rfl⟩
  · go_enter Tryz.func138, Tryz.ntmps138
    go_wp2
    go_ret
    exact ⟨_, rfl, heap_al_al _ _ _, ((Kept.refl _ w).alloc _).alloc _⟩
  · go_enter Tryz.func138, Tryz.ntmps138
    go_wp2
    go_ret
    exact ⟨_, rfl, heap_al_al _ _ _, ((Kept.refl _ w).alloc _).alloc _⟩
set_option maxHeartbeats 1000000 in
theorem unless_any (w : World) (b : Nat) (lo : Option Addr) (ll lc n : Nat) (c : Int) (h : Bool) :
    Calls Tryz.prog 136 #[.agg #[.pointer (some ⟨b, 0, none⟩), .slice lo ll lc, .int .i64 (n : Int)], .bool h, .int .i64 c] w fun e w' => ∃ v, e = .returned v ∧ FltAt w' (if h = true then [(0, -1)] else [(c, (n : Int))]) v ∧ Same0 w w' := by
  cases h
  · have cF := fault_any
    go_enter Tryz.func136, Tryz.ntmps136
    go_wp2_with (first | (go_at_call 138; refine (cF _ _ _ _ _ _ (.inl rfl) _ _).mono ?_; rintro e w1 ⟨k, rfl, hk1, hk2⟩))
    go_ret
    exact ⟨_, rfl, .inr ⟨by omega, k, _, rfl, hk1, rfl⟩, Same0.trans' ((Kept.refl _ w).alloc _) hk2⟩
  · go_enter Tryz.func136, Tryz.ntmps136
    go_wp2
    go_ret
    exact ⟨_, rfl, .inl ⟨rfl, rfl, rfl⟩, (Kept.refl _ w).alloc _⟩
theorem sg_at_no {n b : Nat} {w : World} {L : List Sym} (h : Sg n w b L) {x : Int} (hx : x < 0 ∨ (L.length : Int) ≤ x) : Calls Tryz.prog 70 #[.pointer (some ⟨b, 0, none⟩), .int .i64 x] w fun e w' => e = .returned (.tuple #[.agg #[.string ⟨#[]⟩, .int .i64 0, .bool false], .int .i64 14]) ∧ Same0 w w' := by
  obtain ⟨⟨sv, mr, h1, _⟩, ha⟩ := h
  exact at_no h1 x hx
theorem sg_at_yes {n b : Nat} {w : World} {L : List Sym} (h : Sg n w b L) {i : Nat} (hi : i < L.length) : Calls Tryz.prog 70 #[.pointer (some ⟨b, 0, none⟩), .int .i64 (i : Int)] w fun e w' => e = .returned (.tuple #[.agg #[.string L[i].name, .int .i64 L[i].ar, .bool L[i].df], .int .i64 0]) ∧ Same0 w w' := by
  obtain ⟨⟨sv, mr, h1, _⟩, ha⟩ := h
  exact at_yes h1 i hi
set_option maxHeartbeats 1000000 in
theorem isDefined_any {w : World} {b bs : Nat} {ro : Option Addr} {rc : Nat} {L : List Sym} {R : List Ru} (h : StR w b bs ro rc L R) (lo : Option Addr) (ll lc n : Nat) (x : Int) :
    Calls Tryz.prog 139 #[.agg #[.pointer (some ⟨b, 0, none⟩), .slice lo ll lc, .int .i64 (n : Int)], .int .i64 x] w fun e w' => e = .returned (.bool (defB L x)) ∧ Same0 w w' := by
  have K : ∀ o, Same0 w (w.alloc o) := fun o => (Kept.refl _ w).alloc o
  have C := fun o => (h.same (K o)).cells.1
  by_cases hx : x < 0 ∨ (L.length : Int) ≤ x
  · have H1 : Hid (defB L x = false) := defB_no hx
    have c := fun o => sg_at_no (h.same (K o)).sig hx
    clear K h
    go_enter Tryz.func139, Tryz.ntmps139
    go_wp2_with (first | (go_at_call 70; refine (c _).mono ?_; rintro e w' ⟨rfl, hk⟩))
    go_ret
    exact ⟨by rw [H1.out]; rfl, Kept.alloc (Same0.trans' ((Kept.refl _ w).alloc _) hk) _⟩
  · obtain ⟨i, rfl⟩ : ∃ i : Nat, x = (i : Int) := ⟨x.toNat, by omega⟩
    have hi : i < L.length := by omega
    have H1 : Hid (defB L (i : Int) = L[i].df) := defB_at hi
    have c := fun o => sg_at_yes (h.same (K o)).sig hi
    clear K h
    go_enter Tryz.func139, Tryz.ntmps139
    go_wp2_with (first | (go_at_call 70; refine (c _).mono ?_; rintro e w' ⟨rfl, hk⟩))
    go_ret
    exact ⟨by rw [H1.out]; rfl, Kept.alloc (Same0.trans' ((Kept.refl _ w).alloc _) hk) _⟩
end Go.Proofs.YtlemcinjalepkaaGreat
/- The walks of what is asked of a rule: many, term, side, root. -/
namespace Go.Proofs.YtlemcinjalepkaaGreat
set_option maxRecDepth 100000
set_option linter.unusedVariables false
open Go.RowKit
attribute [local go_sem ↓] Go.wp_at_zero Go.wp_at_succ
theorem field_left (a d : Option Addr) (b c e f : Nat) (w : World) : (Instr.field 73 (.agg #[.slice a b c, .slice d e f]) 0).run Tryz.prog w = .ok (.slice a b c) w := by kernel_rfl
theorem field_right (a d : Option Addr) (b c e f : Nat) (w : World) : (Instr.field 73 (.agg #[.slice a b c, .slice d e f]) 1).run Tryz.prog w = .ok (.slice d e f) w := by kernel_rfl
/-- What the question j answers of the rule n. -/
def askW (L : List Sym) (R l : List Ru) (j n : Nat) : List (Int × Int) := if ckB L R l j n = true then [(0, -1)] else wrongL L R l j n
/-- A rule of a list that would come behind a store's own. -/
structure Cnd (w : World) (b bs : Nat) (ro : Option Addr) (rc : Nat) (L : List Sym) (R : List Ru) (lo : Option Addr) (l : List Ru) (n : Nat) : Prop where
  st : StR w b bs ro rc L R
  ls : RsAt w lo l
  ll : l.length ≤ 140737488355328
  hn : n < l.length
theorem Cnd.same {w w' : World} {b bs : Nat} {ro : Option Addr} {rc : Nat} {L : List Sym} {R : List Ru} {lo : Option Addr} {l : List Ru} {n : Nat} (h : Cnd w b bs ro rc L R lo l n) (hk : Same0 w w') : Cnd w' b bs ro rc L R lo l n :=
  ⟨h.st.same hk, h.ls.same hk, h.ll, h.hn⟩
/-- The cells of a candidate in a box. -/
def BoxAt (w : World) (k b : Nat) (lo : Option Addr) (ll lc n : Nat) : Prop := w.cell? ⟨k, 0, none⟩ = some (.pointer (some ⟨b, 0, none⟩)) ∧ w.cell? ⟨k, 1, none⟩ = some (.slice lo ll lc) ∧ w.cell? ⟨k, 2, none⟩ = some (.int .i64 (n : Int))
theorem box_new (w : World) (b : Nat) (lo : Option Addr) (ll lc n : Nat) (t : TypeId) : BoxAt (w.alloc (.cells #[.pointer (some ⟨b, 0, none⟩), .slice lo ll lc, .int .i64 (n : Int)] t)) w.heap.size b lo ll lc n := by
  have h := heap_alloc_new w (.cells #[.pointer (some ⟨b, 0, none⟩), .slice lo ll lc, .int .i64 (n : Int)] t)
  exact ⟨cellAt h 0, cellAt h 1, cellAt h 2⟩
theorem BoxAt.same {w w' : World} {k b : Nat} {lo : Option Addr} {ll lc n : Nat} (h : BoxAt w k b lo ll lc n) (hb : k < w.heap.size) (hk : Same0 w w') : BoxAt w' k b lo ll lc n :=
  ⟨(hk.cell (p := ⟨k, 0, none⟩) hb (fun f => f)).trans h.1, (hk.cell (p := ⟨k, 1, none⟩) hb (fun f => f)).trans h.2.1, (hk.cell (p := ⟨k, 2, none⟩) hb (fun f => f)).trans h.2.2⟩
theorem iwrap {z : Int} (h1 : -9223372036854775808 ≤ z) (h2 : z < 9223372036854775808) : IntKind.i64.wrap z = z := by
  simp [IntKind.wrap, IntKind.bits, IntKind.signed]; omega
set_option maxHeartbeats 2000000 in
theorem many_any {w : World} {b bs : Nat} {ro : Option Addr} {rc : Nat} {L : List Sym} {R : List Ru} {lo : Option Addr} {l : List Ru} {n lc : Nat} (h : Cnd w b bs ro rc L R lo l n) :
    Calls Tryz.prog 115 #[.agg #[.pointer (some ⟨b, 0, none⟩), .slice lo l.length lc, .int .i64 (n : Int)]] w fun e w' => ∃ v, e = .returned v ∧ FltAt w' (askW L R l 0 n) v ∧ Same0 w w' := by
  have W1 : Same0 w (w.alloc (.cells #[.pointer (some ⟨b, 0, none⟩), .slice lo l.length lc, .int .i64 (n : Int)] 168)) := (Kept.refl _ w).alloc _
  have B1 := box_new w b lo l.length lc n 168
  have C1 := (h.st.same W1).cells
  have hz : w.heap.size < (w.alloc (.cells #[.pointer (some ⟨b, 0, none⟩), .slice lo l.length lc, .int .i64 (n : Int)] 168)).heap.size := by simp
  have HS : Hid (∀ ww, Same0 (w.alloc (.cells #[.pointer (some ⟨b, 0, none⟩), .slice lo l.length lc, .int .i64 (n : Int)] 168)) ww → (ww.cell? ⟨b, 0, none⟩ = some (.pointer (some ⟨bs, 0, none⟩)) ∧ ww.cell? ⟨b, 1, none⟩ = some (.slice ro R.length rc)) ∧ ww.cell? ⟨w.heap.size, 0, none⟩ = some (.pointer (some ⟨b, 0, none⟩)) ∧ ww.cell? ⟨w.heap.size, 1, none⟩ = some (.slice lo l.length lc) ∧ ww.cell? ⟨w.heap.size, 2, none⟩ = some (.int .i64 (n : Int))) := fun ww hk => ⟨((h.st.same W1).same hk).cells, B1.same hz hk⟩
  have hR := h.st.le
  have hl := h.ll
  have CC0 := HS.out _ (Kept.refl _ _)
  have E : Hid (∀ q : Bool, q = decide (R.length + l.length ≤ 100) → (if q = true then [(0, -1)] else [(70, (n : Int))]) = askW L R l 0 n) := by
    intro q hq
    subst hq
    simp only [askW, ckB, askB, wrongL]
    split <;> simp_all
  have Q : Hid (decide (IntKind.i64.wrap ((R.length : Int) + (l.length : Int)) ≤ 100) = decide (R.length + l.length ≤ 100)) := by
    show _ = _
    rw [iwrap (by omega) (by omega)]
    congr 1
    exact propext ⟨fun h => by omega, fun h => by omega⟩
  clear B1 C1 hz
  go_enter Tryz.func115, Tryz.ntmps115
  go_wp2
  go_region_held3 (fun w' => (w'.cell? ⟨b, 0, none⟩ = some (.pointer (some ⟨bs, 0, none⟩)) ∧ w'.cell? ⟨b, 1, none⟩ = some (.slice ro R.length rc)) ∧ w'.cell? ⟨w.heap.size, 0, none⟩ = some (.pointer (some ⟨b, 0, none⟩)) ∧ w'.cell? ⟨w.heap.size, 1, none⟩ = some (.slice lo l.length lc) ∧ w'.cell? ⟨w.heap.size, 2, none⟩ = some (.int .i64 (n : Int))) (first | exact cc1 | exact CC0) (first | (go_at_call 136; refine (unless_any _ _ _ _ _ _ _ _).mono ?_; rintro e w2 ⟨v, rfl, hv, hk2⟩; have cc1 := HS.out _ (Same0.trans' (Kept.drew (Kept.refl _ _)) hk2)))
  go_wp2
  go_ret
  exact ⟨_, rfl, by rw [← E.out _ Q.out]; exact hv, Same0.trans' (Kept.drew W1) hk2⟩
end Go.Proofs.YtlemcinjalepkaaGreat
/- The walks of what is asked of a rule: side, root. -/
namespace Go.Proofs.YtlemcinjalepkaaGreat
set_option maxRecDepth 100000
set_option linter.unusedVariables false
open Go.RowKit
attribute [local go_sem ↓] Go.wp_at_zero Go.wp_at_succ
theorem Cnd.opened {w : World} {b bs : Nat} {ro : Option Addr} {rc : Nat} {L : List Sym} {R : List Ru} {lo : Option Addr} {l : List Ru} {n : Nat} (h : Cnd w b bs ro rc L R lo l n) (lc : Nat) :
    ∃ lb off ao ac bo bc x, lo = some ⟨lb, off, none⟩ ∧ x = l.getD n ([], []) ∧ Same0 w (w.alloc (.cells #[.pointer (some ⟨b, 0, none⟩), .slice (some ⟨lb, off, none⟩) l.length lc, .int .i64 (n : Int)] 168)) ∧ (((w.alloc (.cells #[.pointer (some ⟨b, 0, none⟩), .slice (some ⟨lb, off, none⟩) l.length lc, .int .i64 (n : Int)] 168)).cell? ⟨b, 0, none⟩ = some (.pointer (some ⟨bs, 0, none⟩)) ∧ (w.alloc (.cells #[.pointer (some ⟨b, 0, none⟩), .slice (some ⟨lb, off, none⟩) l.length lc, .int .i64 (n : Int)] 168)).cell? ⟨b, 1, none⟩ = some (.slice ro R.length rc)) ∧ ((w.alloc (.cells #[.pointer (some ⟨b, 0, none⟩), .slice (some ⟨lb, off, none⟩) l.length lc, .int .i64 (n : Int)] 168)).cell? ⟨w.heap.size, 0, none⟩ = some (.pointer (some ⟨b, 0, none⟩)) ∧ (w.alloc (.cells #[.pointer (some ⟨b, 0, none⟩), .slice (some ⟨lb, off, none⟩) l.length lc, .int .i64 (n : Int)] 168)).cell? ⟨w.heap.size, 1, none⟩ = some (.slice (some ⟨lb, off, none⟩) l.length lc) ∧ (w.alloc (.cells #[.pointer (some ⟨b, 0, none⟩), .slice (some ⟨lb, off, none⟩) l.length lc, .int .i64 (n : Int)] 168)).cell? ⟨w.heap.size, 2, none⟩ = some (.int .i64 (n : Int))) ∧ (w.alloc (.cells #[.pointer (some ⟨b, 0, none⟩), .slice (some ⟨lb, off, none⟩) l.length lc, .int .i64 (n : Int)] 168)).cell? ⟨lb, off + n * 2, none⟩ = some (.slice ao x.1.length ac) ∧ (w.alloc (.cells #[.pointer (some ⟨b, 0, none⟩), .slice (some ⟨lb, off, none⟩) l.length lc, .int .i64 (n : Int)] 168)).cell? ⟨lb, off + n * 2 + 1, none⟩ = some (.slice bo x.2.length bc)) ∧
      Hid (∀ ww, Same0 (w.alloc (.cells #[.pointer (some ⟨b, 0, none⟩), .slice (some ⟨lb, off, none⟩) l.length lc, .int .i64 (n : Int)] 168)) ww → (ww.cell? ⟨b, 0, none⟩ = some (.pointer (some ⟨bs, 0, none⟩)) ∧ ww.cell? ⟨b, 1, none⟩ = some (.slice ro R.length rc)) ∧ (ww.cell? ⟨w.heap.size, 0, none⟩ = some (.pointer (some ⟨b, 0, none⟩)) ∧ ww.cell? ⟨w.heap.size, 1, none⟩ = some (.slice (some ⟨lb, off, none⟩) l.length lc) ∧ ww.cell? ⟨w.heap.size, 2, none⟩ = some (.int .i64 (n : Int))) ∧ ww.cell? ⟨lb, off + n * 2, none⟩ = some (.slice ao x.1.length ac) ∧ ww.cell? ⟨lb, off + n * 2 + 1, none⟩ = some (.slice bo x.2.length bc)) ∧
      Hid (∀ ww, Same0 (w.alloc (.cells #[.pointer (some ⟨b, 0, none⟩), .slice (some ⟨lb, off, none⟩) l.length lc, .int .i64 (n : Int)] 168)) ww → Arg ww ao x.1 ac ∧ Arg ww bo x.2 bc ∧ StR ww b bs ro rc L R) ∧
      Hid (∀ ww, Same0 (w.alloc (.cells #[.pointer (some ⟨b, 0, none⟩), .slice (some ⟨lb, off, none⟩) l.length lc, .int .i64 (n : Int)] 168)) ww → Calls Tryz.prog 137 #[.agg #[.pointer (some ⟨b, 0, none⟩), .slice (some ⟨lb, off, none⟩) l.length lc, .int .i64 (n : Int)]] ww fun e w' => e = .returned (.agg #[.slice ao x.1.length ac, .slice bo x.2.length bc]) ∧ Same0 (w.alloc (.cells #[.pointer (some ⟨b, 0, none⟩), .slice (some ⟨lb, off, none⟩) l.length lc, .int .i64 (n : Int)] 168)) w') ∧
      Hid (∀ ww q c, Same0 (w.alloc (.cells #[.pointer (some ⟨b, 0, none⟩), .slice (some ⟨lb, off, none⟩) l.length lc, .int .i64 (n : Int)] 168)) ww → Calls Tryz.prog 136 #[.agg #[.pointer (some ⟨b, 0, none⟩), .slice (some ⟨lb, off, none⟩) l.length lc, .int .i64 (n : Int)], .bool q, .int .i64 c] ww fun e w' => ∃ v, e = .returned v ∧ FltAt w' (if q = true then [(0, -1)] else [(c, (n : Int))]) v ∧ Same0 (w.alloc (.cells #[.pointer (some ⟨b, 0, none⟩), .slice (some ⟨lb, off, none⟩) l.length lc, .int .i64 (n : Int)] 168)) w') := by
  obtain ⟨lb, off, rfl, hlb, hr⟩ := h.ls.get h.hn
  obtain ⟨x, hx⟩ : ∃ x, x = l[n]'h.hn := ⟨_, rfl⟩
  rw [← hx] at hr
  obtain ⟨ao, ac, bo, bc, r0, r1, A1, A2⟩ := hr
  have e : x = l.getD n ([], []) := by rw [hx]; simp [List.getD, h.hn]
  have hn := h.hn
  obtain ⟨wb, hwb⟩ : ∃ wb, wb = w.alloc (.cells #[.pointer (some ⟨b, 0, none⟩), .slice (some ⟨lb, off, none⟩) l.length lc, .int .i64 (n : Int)] 168) := ⟨_, rfl⟩
  have W0 : Same0 w wb := hwb ▸ (Kept.refl _ w).alloc _
  have B1 : BoxAt wb w.heap.size b (some ⟨lb, off, none⟩) l.length lc n := hwb ▸ box_new w b _ l.length lc n _
  have hz : w.heap.size < wb.heap.size := by rw [hwb]; simp
  have HS : ∀ ww, Same0 wb ww → (ww.cell? ⟨b, 0, none⟩ = some (.pointer (some ⟨bs, 0, none⟩)) ∧ ww.cell? ⟨b, 1, none⟩ = some (.slice ro R.length rc)) ∧ (ww.cell? ⟨w.heap.size, 0, none⟩ = some (.pointer (some ⟨b, 0, none⟩)) ∧ ww.cell? ⟨w.heap.size, 1, none⟩ = some (.slice (some ⟨lb, off, none⟩) l.length lc) ∧ ww.cell? ⟨w.heap.size, 2, none⟩ = some (.int .i64 (n : Int))) ∧ ww.cell? ⟨lb, off + n * 2, none⟩ = some (.slice ao x.1.length ac) ∧ ww.cell? ⟨lb, off + n * 2 + 1, none⟩ = some (.slice bo x.2.length bc) := fun ww hk => ⟨((h.st.same W0).same hk).cells, B1.same hz hk, ((W0.trans' hk).cell (p := ⟨lb, off + n * 2, none⟩) hlb (fun f => f)).trans r0, ((W0.trans' hk).cell (p := ⟨lb, off + n * 2 + 1, none⟩) hlb (fun f => f)).trans r1⟩
  refine ⟨lb, off, ao, ac, bo, bc, x, rfl, e, ?_⟩
  rw [← hwb]
  refine ⟨W0, HS wb (Kept.refl _ _), HS, fun ww hk => ⟨(A1.same W0).same hk, (A2.same W0).same hk, (h.st.same W0).same hk⟩, fun ww hk => ?_, fun ww q c hk => ?_⟩
  · obtain ⟨_, _, g0, g1⟩ := HS ww hk
    exact (rule_any g0 g1 hn).mono (fun e w' ⟨q1, q2⟩ => ⟨q1, hk.trans' q2⟩)
  · exact (unless_any ww b _ _ _ n c q).mono (fun e w' ⟨v, q1, q2, q3⟩ => ⟨v, q1, q2, hk.trans' q3⟩)
set_option maxHeartbeats 4000000 in
theorem side_any {w : World} {b bs : Nat} {ro : Option Addr} {rc : Nat} {L : List Sym} {R : List Ru} {lo : Option Addr} {l : List Ru} {n lc : Nat} (h : Cnd w b bs ro rc L R lo l n) (hu : Upto L R l 2 n) :
    Calls Tryz.prog 117 #[.agg #[.pointer (some ⟨b, 0, none⟩), .slice lo l.length lc, .int .i64 (n : Int)]] w fun e w' => ∃ v, e = .returned v ∧ FltAt w' (askW L R l 2 n) v ∧ Same0 w w' := by
  obtain ⟨lb, off, ao, ac, bo, bc, x, rfl, hx, W0, CC0, HS, HA, CR, CU⟩ := h.opened lc
  have W1 : Same0 (w.alloc (.cells #[.pointer (some ⟨b, 0, none⟩), .slice (some ⟨lb, off, none⟩) l.length lc, .int .i64 (n : Int)] 168)) (w.alloc (.cells #[.pointer (some ⟨b, 0, none⟩), .slice (some ⟨lb, off, none⟩) l.length lc, .int .i64 (n : Int)] 168)).drew := Kept.drew (Kept.refl _ _)
  have f0 := field_left
  have f1 := field_right
  have E : Hid (∀ q : Bool, (q = true ↔ x.1.length ≤ 200 ∧ x.2.length ≤ 200) → (if q = true then [(0, -1)] else [(72, (n : Int))]) = askW L R l 2 n) := by
    intro q hq
    have e1 : q = (decide (x.1.length ≤ 200) && decide (x.2.length ≤ 200)) := by
      rw [← Bool.decide_and]
      cases q <;> simp_all
    subst e1
    simp only [askW, ckB, askB, wrongL, ← hx]
    rfl
  have s1 := ((HA.out _ (Kept.refl _ _)).1).size
  have s2 := ((HA.out _ (Kept.refl _ _)).2.1).size
  clear h hu hx
  go_enter Tryz.func117, Tryz.ntmps117
  go_wp2
  go_region_held3 (fun w' => (w'.cell? ⟨b, 0, none⟩ = some (.pointer (some ⟨bs, 0, none⟩)) ∧ w'.cell? ⟨b, 1, none⟩ = some (.slice ro R.length rc)) ∧ (w'.cell? ⟨w.heap.size, 0, none⟩ = some (.pointer (some ⟨b, 0, none⟩)) ∧ w'.cell? ⟨w.heap.size, 1, none⟩ = some (.slice (some ⟨lb, off, none⟩) l.length lc) ∧ w'.cell? ⟨w.heap.size, 2, none⟩ = some (.int .i64 (n : Int))) ∧ w'.cell? ⟨lb, off + n * 2, none⟩ = some (.slice ao x.1.length ac) ∧ w'.cell? ⟨lb, off + n * 2 + 1, none⟩ = some (.slice bo x.2.length bc)) (first | exact cc1 | exact CC0) (first | (go_at_call 137; refine (CR.out _ (by first | exact hw1 | exact W1)).mono ?_; rintro e w1 ⟨rfl, hw1⟩; have cc1 := HS.out _ hw1))
  all_goals
    go_wp2_with (first | (go_at_call 136; refine (CU.out _ _ _ (by first | exact hw1 | exact W1)).mono ?_; rintro e w2 ⟨v, rfl, hv, hw2⟩; have cc1 := HS.out _ hw2))
  all_goals
    go_ret
    exact ⟨_, rfl, by rw [← E.out _ ?_]; exact hv; simp; first | omega | (split <;> omega), W0.trans' hw2⟩
set_option maxHeartbeats 4000000 in
theorem root_any {w : World} {b bs : Nat} {ro : Option Addr} {rc : Nat} {L : List Sym} {R : List Ru} {lo : Option Addr} {l : List Ru} {n lc : Nat} (h : Cnd w b bs ro rc L R lo l n) (hu : Upto L R l 3 n) :
    Calls Tryz.prog 118 #[.agg #[.pointer (some ⟨b, 0, none⟩), .slice lo l.length lc, .int .i64 (n : Int)]] w fun e w' => ∃ v, e = .returned v ∧ FltAt w' (askW L R l 3 n) v ∧ Same0 w w' := by
  obtain ⟨lb, off, ao, ac, bo, bc, x, rfl, hx, W0, CC0, HS, HA, CR, CU⟩ := h.opened lc
  have W1 : Same0 (w.alloc (.cells #[.pointer (some ⟨b, 0, none⟩), .slice (some ⟨lb, off, none⟩) l.length lc, .int .i64 (n : Int)] 168)) (w.alloc (.cells #[.pointer (some ⟨b, 0, none⟩), .slice (some ⟨lb, off, none⟩) l.length lc, .int .i64 (n : Int)] 168)).drew := Kept.drew (Kept.refl _ _)
  have f0 := field_left
  have f1 := field_right
  have hc : checkE L x.1 = 0 := by
    have := hu.1 1 (by omega) n h.hn
    simp only [ckB, askB, ← hx, Bool.and_eq_true, decide_eq_true_eq] at this
    exact this.1
  have hp : 0 < x.1.length := isT_pos (checkE_zero.1 hc).2.2
  have E : Hid (∀ q : Bool, q = defB L x.1[0] → (if q = true then [(0, -1)] else [(73, (n : Int))]) = askW L R l 3 n) := by
    intro q hq
    have e1 : x.1.headD (-1) = x.1[0] := by
      clear CC0 HS HA CR CU W0 W1 hc hx h hu
      obtain ⟨x1, x2⟩ := x
      cases x1 with
      | nil => simp at hp
      | cons y r => simp
    subst hq
    simp only [askW, ckB, askB, wrongL, ← hx, e1]
    rfl
  obtain ⟨ab, ao', rfl, hab⟩ : ∃ ab ao', ao = some ⟨ab, ao', none⟩ ∧ Hid (∀ ww, Same0 (w.alloc (.cells #[.pointer (some ⟨b, 0, none⟩), .slice (some ⟨lb, off, none⟩) l.length lc, .int .i64 (n : Int)] 168)) ww → ww.cell? ⟨ab, ao', none⟩ = some (.int .i64 x.1[0])) := by
    obtain ⟨ab, ao', e, hlt, hc⟩ := ((HA.out _ (Kept.refl _ _)).1).at'.get hp
    exact ⟨ab, ao', e, fun ww hk => (hk.cell (p := ⟨ab, ao', none⟩) hlt (fun f => f)).trans hc⟩
  have CD : Hid (∀ ww z, Same0 (w.alloc (.cells #[.pointer (some ⟨b, 0, none⟩), .slice (some ⟨lb, off, none⟩) l.length lc, .int .i64 (n : Int)] 168)) ww → Calls Tryz.prog 139 #[.agg #[.pointer (some ⟨b, 0, none⟩), .slice (some ⟨lb, off, none⟩) l.length lc, .int .i64 (n : Int)], .int .i64 z] ww fun e w' => e = .returned (.bool (defB L z)) ∧ Same0 (w.alloc (.cells #[.pointer (some ⟨b, 0, none⟩), .slice (some ⟨lb, off, none⟩) l.length lc, .int .i64 (n : Int)] 168)) w') := fun ww z hk => (isDefined_any (HA.out ww hk).2.2 _ _ _ _ _).mono (fun e w' ⟨q1, q2⟩ => ⟨q1, hk.trans' q2⟩)
  have i1 : (0 : Int) < (x.1.length : Int) := by omega
  have CC0 := And.intro (hab.out _ (Kept.refl _ _)) CC0
  have HS' : Hid (∀ ww, Same0 (w.alloc (.cells #[.pointer (some ⟨b, 0, none⟩), .slice (some ⟨lb, off, none⟩) l.length lc, .int .i64 (n : Int)] 168)) ww → ww.cell? ⟨ab, ao', none⟩ = some (.int .i64 x.1[0]) ∧ (ww.cell? ⟨b, 0, none⟩ = some (.pointer (some ⟨bs, 0, none⟩)) ∧ ww.cell? ⟨b, 1, none⟩ = some (.slice ro R.length rc)) ∧ (ww.cell? ⟨w.heap.size, 0, none⟩ = some (.pointer (some ⟨b, 0, none⟩)) ∧ ww.cell? ⟨w.heap.size, 1, none⟩ = some (.slice (some ⟨lb, off, none⟩) l.length lc) ∧ ww.cell? ⟨w.heap.size, 2, none⟩ = some (.int .i64 (n : Int))) ∧ ww.cell? ⟨lb, off + n * 2, none⟩ = some (.slice (some ⟨ab, ao', none⟩) x.1.length ac) ∧ ww.cell? ⟨lb, off + n * 2 + 1, none⟩ = some (.slice bo x.2.length bc)) := fun ww hk => ⟨hab.out ww hk, HS.out ww hk⟩
  clear h hu hx hab HS hc
  go_enter Tryz.func118, Tryz.ntmps118
  go_wp2
  go_region_held3 (fun w' => w'.cell? ⟨ab, ao', none⟩ = some (.int .i64 x.1[0]) ∧ (w'.cell? ⟨b, 0, none⟩ = some (.pointer (some ⟨bs, 0, none⟩)) ∧ w'.cell? ⟨b, 1, none⟩ = some (.slice ro R.length rc)) ∧ (w'.cell? ⟨w.heap.size, 0, none⟩ = some (.pointer (some ⟨b, 0, none⟩)) ∧ w'.cell? ⟨w.heap.size, 1, none⟩ = some (.slice (some ⟨lb, off, none⟩) l.length lc) ∧ w'.cell? ⟨w.heap.size, 2, none⟩ = some (.int .i64 (n : Int))) ∧ w'.cell? ⟨lb, off + n * 2, none⟩ = some (.slice (some ⟨ab, ao', none⟩) x.1.length ac) ∧ w'.cell? ⟨lb, off + n * 2 + 1, none⟩ = some (.slice bo x.2.length bc)) (first | exact cc1 | exact CC0) (first | (go_at_call 137; refine (CR.out _ (by first | exact hw1 | exact W1)).mono ?_; rintro e w1 ⟨rfl, hw1⟩; have cc1 := HS'.out _ hw1) | (go_at_call 139; refine (CD.out _ _ (by first | exact hw1 | exact W1)).mono ?_; rintro e w1 ⟨rfl, hw1⟩; have cc1 := HS'.out _ hw1) | (go_at_call 136; refine (CU.out _ _ _ (by first | exact hw1 | exact W1)).mono ?_; rintro e w2 ⟨v, rfl, hv, hw2⟩; have cc1 := HS'.out _ hw2))
  all_goals
    go_wp2
    go_ret
    exact ⟨_, rfl, by rw [← E.out _ rfl]; exact hv, W0.trans' hw2⟩
end Go.Proofs.YtlemcinjalepkaaGreat
