import Derived.Test.YthhcnllabhfejaaGUnifyMost03
import Derived.Laws.AppendOwnNone
import Derived.Test.YthhcnllabhfejaaGUnifyMost01
import Derived.SizedLaws
import Derived.Test.YthhcnllabhfejaaGUnifyMost02
import Derived.Laws.Tables
/- The walks of the statements' helpers of layer 2: lent, kept, apart, places. -/
namespace Go.Proofs.Ythhcnllabhfejaa
set_option linter.unusedVariables false
open Go.RowKit
attribute [local go_sem ↓] Go.wp_at_zero Go.wp_at_succ
theorem row_prefix {base g : Nat} {w : World} {xs ys : List Int} {m c : Nat} (h : Row base w (.slice (some ⟨g, 0, none⟩) m c) (xs ++ ys)) : IntsAt w (some ⟨g, 0, none⟩) xs := by
  obtain ⟨ao, cap, hv, hi, _, _⟩ := h.ints
  cases hv
  rcases hi with e | ⟨b, off, e, hlt, hc⟩
  · exact .inl (by simp at e; exact e.1)
  · cases e
    refine .inr ⟨_, _, rfl, hlt, fun i hi => ?_⟩
    have := hc i (by simp; omega)
    rwa [List.getElem_append_left hi] at this
/-- A row that is written over: nothing but its block has turned. -/
def Over (base g n : Nat) (w wr : World) : Prop := (∃ ys, wr.ownsRow base 3 1 (.slice (some ⟨g, 0, none⟩) n n) n ys) ∧ Kept (fun k => k = g) w wr
theorem Over.store {base g n : Nat} {w wr : World} (h : Over base g n w wr) (k : Nat) (u : Value) : Over base g n w (wr.setCell ⟨g, k, none⟩ u) := by
  obtain ⟨⟨ys, h1⟩, h2⟩ := h
  exact ⟨⟨_, (h1.stored k u).1⟩, h2.setCell (p := ⟨g, k, none⟩) (fun _ => rfl) u⟩
theorem Same0.after {w w5 w6 : World} {S : Nat → Prop} (h : Same0 w w5) (k : Kept S w5 w6) (hs : ∀ i, i < w.heap.size → ¬ S i) : Same0 w w6 :=
  Kept.trans h k (fun i hi e => (hs i hi e).elim)
def OverA (base : Nat) (v : Value) (B : Nat → Prop) (n : Nat) (w wr : World) : Prop := ∃ zs : List Int, zs.length = n ∧ Row base wr v zs ∧ (∀ k, v.ownBlock = some k → B k) ∧ Kept B w wr
theorem OverA.at {base : Nat} {ao : Option Addr} {cap n : Nat} {B : Nat → Prop} {w wr : World} (h : OverA base (.slice ao n cap) B n w wr) {k : Nat} (hk : k < n) : ∃ g, ao = some ⟨g, 0, none⟩ ∧ ∃ old, wr.cell? ⟨g, k, none⟩ = some old ∧ wr.frozen? ⟨g, k, none⟩ = false := by
  obtain ⟨zs, rfl, h1, _, _⟩ := h
  obtain ⟨g, cap', hv, _, _⟩ := h1.form (by omega)
  cases hv
  exact ⟨g, rfl, row_put h1 hk⟩
theorem OverA.store {base g : Nat} {cap n : Nat} {B : Nat → Prop} {w wr : World} (h : OverA base (.slice (some ⟨g, 0, none⟩) n cap) B n w wr) (k : Nat) (x : Int) : OverA base (.slice (some ⟨g, 0, none⟩) n cap) B n w (wr.setCell ⟨g, k, none⟩ (.int .i64 x)) := by
  obtain ⟨zs, rfl, h1, hB, h2⟩ := h
  refine ⟨zs.set k x, by simp, ?_, hB, h2.setCell (p := ⟨g, k, none⟩) (fun _ => hB g rfl) _⟩
  have := (h1.stored k (.int .i64 x)).1
  unfold Row
  rw [List.length_set]
  have e : iv (zs.set k x) = (iv zs).set k (.int .i64 x) := by simp [iv, List.map_set]
  rw [e]; exact this
end Go.Proofs.Ythhcnllabhfejaa
/- The argument of layer 2's statements, opened: symbols, a list, a place, another list, a path. -/
namespace Go.Proofs.Ythhcnllabhfejaa
set_option linter.unusedVariables false
open Go.RowKit Go.Deep
/-- A list of numbers that came in. -/
structure Arg (w : World) (ao : Option Addr) (xs : List Int) (cap : Nat) : Prop where
  at' : IntsAt w ao xs
  cap' : xs.length ≤ cap
  nil : ao = none → xs.length = 0 ∧ cap = 0
  size : xs.length * 8 ≤ 140737488351232
section
variable {H : Type} {enc : TypeId × Value → H} {w : World} {spare : Nat → Bool} {held : Bool}
theorem trod_struct5 {P : Program} {base : Nat} {t : TypeId} {f0 f1 f2 f3 f4 : Field} {fuel : Nat} {cs : List Value} {x : DataW H × List MemPlace} (ht : P.underlying t = some (.struct #[f0, f1, f2, f3, f4])) (h : DataW.trod enc P w base spare held fuel t cs = some x) :
    ∃ y0 y1 y2 y3 y4 n, x.1 = .agg [y0.1, y1.1, y2.1, y3.1, y4.1] ∧ cs.length = P.cellsOf t ∧ DataW.trod enc P w base spare held n f0.type ((cs.drop f0.offset).take (P.cellsOf f0.type)) = some y0 ∧
      DataW.trod enc P w base spare held n f1.type ((cs.drop f1.offset).take (P.cellsOf f1.type)) = some y1 ∧ DataW.trod enc P w base spare held n f2.type ((cs.drop f2.offset).take (P.cellsOf f2.type)) = some y2 ∧
      DataW.trod enc P w base spare held n f3.type ((cs.drop f3.offset).take (P.cellsOf f3.type)) = some y3 ∧ DataW.trod enc P w base spare held n f4.type ((cs.drop f4.offset).take (P.cellsOf f4.type)) = some y4 := by
  obtain ⟨xs, n, _, rfl, hl, hlen, hf⟩ := DataW.trod_struct ht h
  match xs, hlen with
  | [y0, y1, y2, y3, y4], _ => exact ⟨y0, y1, y2, y3, y4, n, by simp, hl, by simpa using hf 0 f0 rfl, by simpa using hf 1 f1 rfl, by simpa using hf 2 f2 rfl, by simpa using hf 3 f3 rfl, by simpa using hf 4 f4 rfl⟩
theorem bytes_int : Try.prog.bytesOf 3 = 8 := by kernel_rfl
theorem open_ints {t fuel : Nat} {cs : List Value} {x : DataW H × List MemPlace} (ht : Try.prog.underlying t = some (.slice 3)) (h : DataW.trod enc Try.prog w 0 spare held fuel t cs = some x) (hw : ∀ n ∈ x.1.weights Try.prog t, n ≤ reachBytes) :
    ∃ ao cap xs, cs = [.slice ao xs.length cap] ∧ Arg w ao xs cap := by
  have h' := h
  rcases open_slice ht h with ⟨hcs, _⟩ | ⟨a, len, cap, m, n, D, Pl, hcs, _, hl, hm, hmm, rfl, hx⟩
  · exact ⟨none, 0, [], hcs, .inl rfl, Nat.le_refl _, fun _ => ⟨rfl, rfl⟩, by simp⟩
  · subst hcs
    have hsz : len * 8 ≤ 140737488351232 := by
      have := hw ((((List.range len).map D).length + ((List.range (m - len)).map fun j => D (len + j)).length) * Try.prog.bytesOf 3) (by simp [DataW.weights, ht])
      rw [bytes_int] at this
      simp [reachBytes] at this
      omega
    rcases open_elems ht cells_int (by omega) h' with ⟨e, _, _⟩ | ⟨a', e, hl1, hl2, hall⟩
    · cases e
    · cases e
      have each : ∀ i, i < len → ∃ z : Int, w.cell? ⟨a.block, a.off + i, none⟩ = some (.int .i64 z) := by
        intro i hi
        obtain ⟨_, _, cs, n, y, hl, hcell, hy⟩ := hall i hi
        obtain ⟨z, e1, _, _⟩ := DataW.trod_int Try.underlying3 hy
        subst e1
        exact ⟨z, by simpa using hcell 0 (by omega)⟩
      obtain ⟨f, hf⟩ := Classical.axiomOfChoice (fun i : Fin len => each i i.2)
      refine ⟨some a, cap, List.ofFn f, by simp, ?_, by simpa using hl, (fun e => by cases e), by simpa using hsz⟩
      by_cases h0 : len = 0
      · subst h0; exact .inl (by simp)
      · obtain ⟨ea, hlt, _⟩ := hall 0 (by omega)
        refine .inr ⟨a.block, a.off, by rw [← ea], hlt, fun i hi => ?_⟩
        have hi' : i < len := by simpa using hi
        simpa using hf ⟨i, hi'⟩
theorem cells_syms : Try.prog.cellsOf 23 = 1 := by kernel_rfl
theorem cells_term : Try.prog.cellsOf 25 = 1 := by kernel_rfl
theorem cells_ints : Try.prog.cellsOf 24 = 1 := by kernel_rfl
theorem slice_one {t e fuel : Nat} {c : Value} {x : DataW H × List MemPlace} (ht : Try.prog.underlying t = some (.slice e)) (h : DataW.trod enc Try.prog w 0 spare held fuel t [c] = some x) : ∃ ao len cap, c = .slice ao len cap := by
  rcases open_slice ht h with ⟨hcs, _⟩ | ⟨a, len, cap, m, n, D, Pl, hcs, _⟩
  · simp at hcs; exact ⟨_, _, _, hcs⟩
  · simp at hcs; exact ⟨_, _, _, hcs⟩
/-- What a Case holds. -/
structure CaseIs (w : World) (v : Value) (lo : Option Addr) (ll lc : Nat) (ls : List Sym) (so : Option Addr) (tc : Nat) (t : List Int) (at' : Int) (uo : Option Addr) (uc : Nat) (u : List Int) (po : Option Addr) (pc : Nat) (path : List Int) : Prop where
  eq : v = .agg #[.slice lo ll lc, .slice so t.length tc, .int .i64 at', .slice uo u.length uc, .slice po path.length pc]
  syms : SymsAt w lo ll ls
  sl : ll ≤ maxLen
  t' : Arg w so t tc
  u' : Arg w uo u uc
  p' : Arg w po path pc
end
end Go.Proofs.Ythhcnllabhfejaa
/- The argument of layer 6's statements, opened: symbols, two terms, a third one. -/
namespace Go.Proofs.Ythhcnllabhfejaa
set_option linter.unusedVariables false
open Go.RowKit Go.Deep
section
variable {H : Type} {enc : TypeId × Value → H} {w : World} {spare : Nat → Bool} {held : Bool}
theorem trod_struct4 {P : Program} {base : Nat} {t : TypeId} {f0 f1 f2 f3 : Field} {fuel : Nat} {cs : List Value} {x : DataW H × List MemPlace} (ht : P.underlying t = some (.struct #[f0, f1, f2, f3])) (h : DataW.trod enc P w base spare held fuel t cs = some x) :
    ∃ y0 y1 y2 y3 n, x.1 = .agg [y0.1, y1.1, y2.1, y3.1] ∧ cs.length = P.cellsOf t ∧ DataW.trod enc P w base spare held n f0.type ((cs.drop f0.offset).take (P.cellsOf f0.type)) = some y0 ∧
      DataW.trod enc P w base spare held n f1.type ((cs.drop f1.offset).take (P.cellsOf f1.type)) = some y1 ∧ DataW.trod enc P w base spare held n f2.type ((cs.drop f2.offset).take (P.cellsOf f2.type)) = some y2 ∧
      DataW.trod enc P w base spare held n f3.type ((cs.drop f3.offset).take (P.cellsOf f3.type)) = some y3 := by
  obtain ⟨xs, n, _, rfl, hl, hlen, hf⟩ := DataW.trod_struct ht h
  match xs, hlen with
  | [y0, y1, y2, y3], _ => exact ⟨y0, y1, y2, y3, n, by simp, hl, by simpa using hf 0 f0 rfl, by simpa using hf 1 f1 rfl, by simpa using hf 2 f2 rfl, by simpa using hf 3 f3 rfl⟩
theorem cells_Case6 : Try.prog.cellsOf 27 = 4 := by kernel_rfl
/-- What a Case holds. -/
structure Case6Is (w : World) (v : Value) (lo : Option Addr) (ll lc : Nat) (ls : List Sym) (ao : Option Addr) (ac : Nat) (a : List Int) (bo : Option Addr) (bc : Nat) (b : List Int) (so : Option Addr) (tc : Nat) (t : List Int) : Prop where
  eq : v = .agg #[.slice lo ll lc, .slice ao a.length ac, .slice bo b.length bc, .slice so t.length tc]
  syms : SymsAt w lo ll ls
  sl : ll ≤ maxLen
  a' : Arg w ao a ac
  b' : Arg w bo b bc
  t' : Arg w so t tc
set_option maxRecDepth 100000 in
theorem open_case6 {r : Go.Reach} {b0 : Nat} {v : Value} {d : DataW H} {p : List MemPlace} (hv : Value.okWide Try.prog w r b0 27 v) (h : DataW.Trod enc Try.prog w 0 spare held 27 v d p) (hw : ∀ n ∈ d.weights Try.prog 27, n ≤ reachBytes) :
    ∃ lo ll lc ls ao ac a bo bc b so tc t, Case6Is w v lo ll lc ls ao ac a bo bc b so tc t := by
  obtain ⟨cs, rfl, _⟩ := Go.WideShapes.okWide_struct Try.underlying27 hv
  obtain ⟨fuel, hf⟩ := h
  have hf' : DataW.trod enc Try.prog w 0 spare held fuel 27 cs.toList = some (d, p) := by simpa [Value.cells] using hf
  obtain ⟨y0, y1, y2, y3, n, hd, hl, h0, h1, h2, h3⟩ := trod_struct4 Try.underlying27 hf'
  rw [cells_Case6] at hl
  obtain ⟨l⟩ := cs
  match l, hl with
  | [c0, c1, c2, c3], _ =>
    simp only [cells_syms, cells_term, List.drop_zero, List.take_succ_cons, List.take_zero, List.drop_succ_cons] at h0 h1 h2 h3
    have hd' : d = .agg [y0.1, y1.1, y2.1, y3.1] := hd
    subst hd'
    have hww : ∀ n ∈ DataW.weightsEach Try.prog [23, 25, 25, 25] [y0.1, y1.1, y2.1, y3.1], n ≤ reachBytes := by
      intro n hn
      apply hw
      simpa [DataW.weights, Try.underlying27] using hn
    simp only [DataW.weightsEach, List.mem_append] at hww
    obtain ⟨lo, ll, lc, rfl⟩ := slice_one Try.underlying23 h0
    obtain ⟨ls, g1, g2⟩ := open_syms h0
    obtain ⟨ao, ac, a, e1, k1⟩ := open_ints Try.underlying25 h1 (fun n hn => hww n (by simp [hn]))
    obtain ⟨bo, bc, b, e2, k2⟩ := open_ints Try.underlying25 h2 (fun n hn => hww n (by simp [hn]))
    obtain ⟨so, tc, t, e3, k3⟩ := open_ints Try.underlying25 h3 (fun n hn => hww n (by simp [hn]))
    simp only [List.cons.injEq, and_true] at e1 e2 e3
    subst e1 e2 e3
    exact ⟨lo, ll, lc, ls, ao, ac, a, bo, bc, b, so, tc, t, rfl, g1, g2, k1, k2, k3⟩
end
end Go.Proofs.Ythhcnllabhfejaa
/- Terms that become the same, in plain words: parts that lead to others, runs of subterms; no program in sight. -/
namespace Go.Proofs.Ythhcnllabhfejaa
set_option linter.unusedVariables false
/-- Each place has a term behind it. -/
def Trs (L : List Sym) (J : List Int) : Prop := ∀ p, p < J.length → Forest L J 1 p (endN L J p)
def shF (apart x : Int) : Int := if x < 0 then x - apart else x
/-- Two terms as one list. -/
def jl (a b : List Int) (apart : Int) : List Int := a ++ b.map (shF apart)
theorem arN_sh (L : List Sym) {apart : Int} (h : 0 ≤ apart) (x : Int) : arN L (shF apart x) = arN L x := by
  unfold shF
  split
  · unfold arN; rw [if_pos (by omega), if_pos (by omega)]
  · rfl
theorem need_sh (L : List Sym) {apart : Int} (h : 0 ≤ apart) (k : Nat) (b : List Int) : need L k (b.map (shF apart)) = need L k b := by
  induction b generalizing k with
  | nil => rfl
  | cons x r ih =>
    cases k with
    | zero => rfl
    | succ k => simp only [List.map_cons, need, arN_sh L h, ih]
theorem isT_sh {L : List Sym} {apart : Int} (h : 0 ≤ apart) {b : List Int} (hb : IsT L b) : IsT L (b.map (shF apart)) := by
  unfold IsT; rw [need_sh L h]; exact hb
theorem scan_more {L : List Sym} {k n : Nat} {ts : List Int} (h : scan L k ts = some n) (r : List Int) : scan L k (ts ++ r) = some n := by
  obtain ⟨h1, h2⟩ := scan_need h
  have := need_scan (b := ts.drop n ++ r) h2
  rw [← List.append_assoc, List.take_append_drop] at this
  rw [this]; simp; omega
theorem trs_append {L : List Sym} {a b : List Int} (ha : IsT L a) (hb : IsT L b) : Trs L (a ++ b) := by
  intro p hp
  have key : ∃ n, scan L 1 ((a ++ b).drop p) = some n ∧ p + n ≤ (a ++ b).length := by
    by_cases h : p < a.length
    · obtain ⟨n, h1, h2, h3⟩ := isT_scan ha h
      refine ⟨n, ?_, by simp; omega⟩
      rw [List.drop_append_of_le_length (by omega)]
      exact scan_more h1 b
    · obtain ⟨n, h1, h2, h3⟩ := isT_scan hb (p := p - a.length) (by simp at hp; omega)
      refine ⟨n, ?_, by simp; omega⟩
      rw [List.drop_append, List.drop_eq_nil_of_le (by omega), List.nil_append]
      exact h1
  obtain ⟨n, h1, h2⟩ := key
  exact ⟨n, h1, endN_of h1, by rw [endN_of h1]; exact h2⟩
theorem trs_jl {L : List Sym} {a b : List Int} {apart : Int} (h : 0 ≤ apart) (ha : IsT L a) (hb : IsT L b) : Trs L (jl a b apart) := trs_append ha (isT_sh h hb)
theorem Trs.lt {L : List Sym} {J : List Int} (h : Trs L J) {p : Nat} (hp : p < J.length) : p < endN L J p ∧ endN L J p ≤ J.length := ⟨(h p hp).pos, (h p hp).le.2⟩
theorem Trs.kids {L : List Sym} {J : List Int} (h : Trs L J) {p : Nat} (hp : p < J.length) : Forest L J (arN L J[p]) (p + 1) (endN L J p) := by
  obtain ⟨_, h2⟩ := (h p hp).kids; exact h2
/-! ### leaders -/
/-- A part: a place, or a variable -v. -/
def UPart (J : List Int) (x : Int) : Prop := -198 ≤ x ∧ x < (J.length : Int)
def at' (J : List Int) (x : Int) : Int := J.getD x.toNat 0
def un (p q : Int) (ld : Int → Int) : Int → Int := fun x => if ld x = p then q else ld x
def ld0 (J : List Int) : Int → Int := fun x => if 0 ≤ x ∧ at' J x < 0 then at' J x else x
/-- What leads where: to free variables and places of symbols, those of one symbol alone. -/
structure LdOk (J : List Int) (ld : Int → Int) : Prop where
  part : ∀ x, UPart J x → UPart J (ld x)
  idem : ∀ x, UPart J x → ld (ld x) = ld x
  sym : ∀ x, UPart J x → 0 ≤ ld x → 0 ≤ at' J (ld x)
  like : ∀ x, UPart J x → 0 ≤ x → 0 ≤ at' J x → 0 ≤ ld x ∧ at' J (ld x) = at' J x
theorem at'_nat (J : List Int) (p : Nat) (h : p < J.length) : at' J (p : Int) = J[p] := by
  unfold at'
  rw [Int.toNat_natCast, List.getD_eq_getElem?_getD, List.getElem?_eq_getElem h]; rfl
theorem ld0_ok {J : List Int} (hv : ∀ x ∈ J, -198 ≤ x) : LdOk J (ld0 J) := by
  have hm : ∀ x, UPart J x → 0 ≤ x → -198 ≤ at' J x := by
    intro x hx h0
    obtain ⟨k, rfl⟩ := Int.eq_ofNat_of_zero_le h0
    rw [at'_nat J k (by have := hx.2; omega)]
    exact hv _ (List.getElem_mem _)
  refine ⟨?_, ?_, ?_, ?_⟩
  · intro x hx
    unfold ld0
    split
    · rename_i h; exact ⟨hm x hx h.1, by have := h.2; unfold UPart at hx; omega⟩
    · exact hx
  · intro x hx
    by_cases h : 0 ≤ x ∧ at' J x < 0
    · have e : ld0 J x = at' J x := by unfold ld0; rw [if_pos h]
      rw [e]; unfold ld0; rw [if_neg (by omega)]
    · have e : ld0 J x = x := by unfold ld0; rw [if_neg h]
      rw [e, e]
  · intro x hx h0
    by_cases h : 0 ≤ x ∧ at' J x < 0
    · have e : ld0 J x = at' J x := by unfold ld0; rw [if_pos h]
      omega
    · have e : ld0 J x = x := by unfold ld0; rw [if_neg h]
      rw [e] at h0 ⊢; omega
  · intro x hx h0 h1
    have e : ld0 J x = x := by unfold ld0; rw [if_neg (by omega)]
    rw [e]; exact ⟨h0, rfl⟩
/-- Of two leaders the first one is led by the second one. -/
theorem LdOk.un {J : List Int} {ld : Int → Int} (h : LdOk J ld) {p q : Int} (hp : ld p = p) (hq : ld q = q) (hq2 : UPart J q) (hpq : p ≠ q) (hs : 0 ≤ q → 0 ≤ at' J q) (hl : 0 ≤ p → 0 ≤ q ∧ at' J q = at' J p) : LdOk J (un p q ld) := by
  have u1 : ∀ x, ld x = p → Proofs.Ythhcnllabhfejaa.un p q ld x = q := fun x e => by unfold Proofs.Ythhcnllabhfejaa.un; rw [if_pos e]
  have u2 : ∀ x, ld x ≠ p → Proofs.Ythhcnllabhfejaa.un p q ld x = ld x := fun x e => by unfold Proofs.Ythhcnllabhfejaa.un; rw [if_neg e]
  refine ⟨?_, ?_, ?_, ?_⟩ <;> intro x hx <;> by_cases e : ld x = p
  · rw [u1 x e]; exact hq2
  · rw [u2 x e]; exact h.part x hx
  · rw [u1 x e, u2 q (by rw [hq]; exact fun f => hpq f.symm), hq]
  · rw [u2 x e, u2 (ld x) (by rw [h.idem x hx]; exact e), h.idem x hx]
  · rw [u1 x e]; exact hs
  · rw [u2 x e]; exact h.sym x hx
  · intro h0 h1
    obtain ⟨g1, g2⟩ := h.like x hx h0 h1
    rw [e] at g1 g2
    obtain ⟨g3, g4⟩ := hl g1
    rw [u1 x e]; exact ⟨g3, g4.trans g2⟩
  · rw [u2 x e]; exact h.like x hx
/-! ### the walk -/
/-- All that must become the same, if these runs of subterms do: a clash is 'some none'. -/
def uniF (L : List Sym) (J : List Int) : Nat → (Int → Int) → List (Nat × Nat × Nat) → Option (Option (Int → Int))
  | 0, _, _ => none
  | _ + 1, ld, [] => some (some ld)
  | n + 1, ld, (x, y, o) :: r =>
    if x < y then
      if ld x = ld o then uniF L J n ld ((endN L J x, y, endN L J o) :: r)
      else if ld x < 0 then uniF L J n (un (ld x) (ld o) ld) ((endN L J x, y, endN L J o) :: r)
      else if ld o < 0 then uniF L J n (un (ld o) (ld x) ld) ((endN L J x, y, endN L J o) :: r)
      else if at' J (ld x) ≠ at' J (ld o) then some none
      else uniF L J n (un (ld x) (ld o) ld) (((ld x).toNat + 1, endN L J (ld x).toNat, (ld o).toNat + 1) :: (endN L J x, y, endN L J o) :: r)
    else uniF L J n ld r
def RunOk (L : List Sym) (J : List Int) (r : Nat × Nat × Nat) : Prop := ∃ k z, Forest L J k r.1 r.2.1 ∧ Forest L J k r.2.2 z
theorem RunOk.step {L : List Sym} {J : List Int} {x y o : Nat} (h : RunOk L J (x, y, o)) (hxy : x < y) : x < endN L J x ∧ endN L J x ≤ y ∧ y ≤ J.length ∧ o < J.length ∧ o < endN L J o ∧ RunOk L J (endN L J x, y, endN L J o) := by
  obtain ⟨k, z, h1, h2⟩ := h
  cases k with
  | zero => have := h1.zero; simp only at this; omega
  | succ k =>
    obtain ⟨g1, g2, g3⟩ := h1.succ
    obtain ⟨f1, f2, f3⟩ := h2.succ
    simp only at g1 g2 g3 f1 f2 f3
    have := g3.le; have := f1.le
    exact ⟨g2, by omega, by omega, by omega, f2, k, z, g3, f3⟩
theorem RunOk.kids {L : List Sym} {J : List Int} (hT : Trs L J) {p q : Nat} (hp : p < J.length) (hq : q < J.length) (h : J[p] = J[q]) : RunOk L J (p + 1, endN L J p, q + 1) :=
  ⟨_, _, hT.kids hp, by rw [h]; exact hT.kids hq⟩
def roots (J : List Int) (ld : Int → Int) : Nat := (List.range J.length).countP (fun p : Nat => decide (ld (p : Int) = (p : Int)))
theorem countP_le {P Q : Nat → Bool} {l : List Nat} (h : ∀ x ∈ l, P x = true → Q x = true) : l.countP P ≤ l.countP Q := List.countP_mono_left h
theorem countP_lt {P Q : Nat → Bool} {l : List Nat} (h : ∀ x ∈ l, P x = true → Q x = true) {y : Nat} (hy : y ∈ l) (h1 : Q y = true) (h2 : P y = false) : l.countP P < l.countP Q := by
  induction l with
  | nil => simp at hy
  | cons a r ih =>
    have ha := h a (by simp)
    have hr := countP_le (l := r) (fun x hx => h x (by simp [hx]))
    rw [List.countP_cons, List.countP_cons]
    rcases List.mem_cons.1 hy with e | e
    · subst e; simp [h1, h2]; omega
    · have := ih (fun x hx => h x (by simp [hx])) e
      by_cases hP : P a = true
      · simp [hP, ha hP]; exact this
      · simp [hP]; split <;> omega
theorem un_root {J : List Int} {ld : Int → Int} {p q : Int} (hq : ld q = q) (hpq : p ≠ q) {x : Int} (h : un p q ld x = x) : ld x = x := by
  unfold un at h
  split at h
  · rename_i e; subst h; exact absurd (hq.symm.trans e).symm hpq
  · exact h
theorem roots_le {J : List Int} {ld : Int → Int} {p q : Int} (hq : ld q = q) (hpq : p ≠ q) : roots J (un p q ld) ≤ roots J ld :=
  countP_le (fun x _ h => by simp only [decide_eq_true_eq] at h ⊢; exact un_root (J := J) hq hpq h)
theorem roots_lt {J : List Int} {ld : Int → Int} {p : Nat} {q : Int} (hq : ld q = q) (hpq : (p : Int) ≠ q) (hp : ld p = p) (hl : p < J.length) : roots J (un p q ld) < roots J ld :=
  countP_lt (y := p) (fun x _ h => by simp only [decide_eq_true_eq] at h ⊢; exact un_root (J := J) hq hpq h) (by simpa using hl) (by simpa using hp) (by unfold un; simp [hp]; exact fun e => hpq e.symm)
def runsN : List (Nat × Nat × Nat) → Nat
  | [] => 0
  | r :: t => r.2.1 - r.1 + 1 + runsN t
theorem part_nat {J : List Int} {p : Nat} (h : p < J.length) : UPart J p := by unfold UPart; omega
/-- It ends, and keeps to leaders. -/
theorem uni_ends {L : List Sym} {J : List Int} (hT : Trs L J) : ∀ (n : Nat) (ld : Int → Int) (rs : List (Nat × Nat × Nat)), LdOk J ld → (∀ r ∈ rs, RunOk L J r) → (J.length + 1) * roots J ld + runsN rs < n → ∃ r, uniF L J n ld rs = some r ∧ ∀ ld', r = some ld' → LdOk J ld' := by
  intro n
  induction n with
  | zero => intro ld rs _ _ h; omega
  | succ n ih =>
    intro ld rs hl hr hn
    cases rs with
    | nil => exact ⟨_, rfl, fun ld' e => by cases e; exact hl⟩
    | cons r rs =>
      obtain ⟨x, y, o⟩ := r
      have hr2 : ∀ r ∈ rs, RunOk L J r := fun r h => hr r (by simp [h])
      rw [uniF]
      simp only [runsN] at hn
      by_cases hxy : x < y
      · rw [if_pos hxy]
        obtain ⟨s1, s2, s3, s4, s5, s6⟩ := (hr (x, y, o) (by simp)).step hxy
        have hr3 : ∀ r ∈ (endN L J x, y, endN L J o) :: rs, RunOk L J r := fun r h => by
          rcases List.mem_cons.1 h with e | e
          · rw [e]; exact s6
          · exact hr2 r e
        have px := part_nat (J := J) (p := x) (by omega)
        have po := part_nat (J := J) (p := o) s4
        have hlx := hl.idem _ px
        have hlo := hl.idem _ po
        have hpx := hl.part _ px
        have hpo := hl.part _ po
        by_cases h1 : ld x = ld o
        · rw [if_pos h1]; exact ih ld _ hl hr3 (by simp only [runsN]; omega)
        · rw [if_neg h1]
          have h1' : ld o ≠ ld x := fun e => h1 e.symm
          by_cases h2 : ld x < 0
          · rw [if_pos h2]
            have := Nat.mul_le_mul_left (J.length + 1) (roots_le (J := J) (p := ld x) hlo h1)
            exact ih _ _ (hl.un hlx hlo hpo h1 (hl.sym _ po) (fun f => by omega)) hr3 (by simp only [runsN]; omega)
          · rw [if_neg h2]
            by_cases h3 : ld o < 0
            · rw [if_pos h3]
              have := Nat.mul_le_mul_left (J.length + 1) (roots_le (J := J) (p := ld o) hlx h1')
              exact ih _ _ (hl.un hlo hlx hpx h1' (hl.sym _ px) (fun f => by omega)) hr3 (by simp only [runsN]; omega)
            · rw [if_neg h3]
              by_cases h4 : at' J (ld x) ≠ at' J (ld o)
              · rw [if_pos h4]; exact ⟨_, rfl, fun ld' e => by cases e⟩
              · rw [if_neg h4]
                have h4 : at' J (ld x) = at' J (ld o) := by simpa using h4
                obtain ⟨p, hp⟩ := Int.eq_ofNat_of_zero_le (Int.not_lt.1 h2)
                obtain ⟨q, hq⟩ := Int.eq_ofNat_of_zero_le (Int.not_lt.1 h3)
                have hpl : p < J.length := by have := hpx.2; omega
                have hql : q < J.length := by have := hpo.2; omega
                have hlt := roots_lt (J := J) (ld := ld) (p := p) (q := ld o) hlo (by rw [← hp]; exact h1) (by rw [← hp]; exact hlx) hpl
                rw [← hp] at hlt
                have := Nat.mul_le_mul_left (J.length + 1) (Nat.succ_le_of_lt hlt)
                rw [Nat.succ_eq_add_one, Nat.mul_add, Nat.mul_one] at this
                have hpe := hT.lt hpl
                have e1 : (ld x).toNat = p := by omega
                have e2 : (ld o).toNat = q := by omega
                refine ih _ _ (hl.un hlx hlo hpo h1 (hl.sym _ po) (fun _ => ⟨by omega, h4.symm⟩)) ?_ ?_
                · intro r h
                  rcases List.mem_cons.1 h with e | e
                  · rw [e, e1, e2]
                    rw [hp, hq, at'_nat J p hpl, at'_nat J q hql] at h4
                    exact RunOk.kids hT hpl hql h4
                  · exact hr3 r e
                · simp only [runsN, e1]; omega
      · rw [if_neg hxy]
        exact ih ld rs hl hr2 (by omega)
end Go.Proofs.Ythhcnllabhfejaa
/- A joint of package unify in memory: its list, its ends, what leads where, its sizes; the walks of next and leader. -/
namespace Go.Proofs.Ythhcnllabhfejaa
set_option maxRecDepth 100000
set_option linter.unusedVariables false
open Go.RowKit
attribute [local go_sem ↓] Go.wp_at_zero Go.wp_at_succ
/-- Numbers in a block. -/
def Nums (w : World) (b n : Nat) (f : Nat → Int) : Prop := ∃ cs t, w.heap[b]? = some (.cells cs t (0, 0)) ∧ n ≤ cs.size ∧ ∀ i, i < n → cs[i]? = some (.int .i64 (f i))
theorem Nums.kept {S : Nat → Prop} {w w' : World} {b n : Nat} {f : Nat → Int} (h : Nums w b n f) (hk : Kept S w w') (hs : ¬ S b) : Nums w' b n f := by
  obtain ⟨cs, t, h1, h2⟩ := h
  exact ⟨cs, t, hk.at h1 hs, h2⟩
theorem Nums.lt {w : World} {b n : Nat} {f : Nat → Int} (h : Nums w b n f) : b < w.heap.size := by
  obtain ⟨cs, t, h1, h2⟩ := h
  exact lt_of_at h1
theorem Nums.cell {w : World} {b n : Nat} {f : Nat → Int} (h : Nums w b n f) {i : Nat} (hi : i < n) : w.cell? ⟨b, i, none⟩ = some (.int .i64 (f i)) ∧ w.frozen? ⟨b, i, none⟩ = false := by
  obtain ⟨cs, t, h1, _, h2⟩ := h
  exact ⟨by rw [cellAt h1]; exact h2 i hi, frozenAt h1 i⟩
theorem Nums.set {w : World} {b n : Nat} {f : Nat → Int} (h : Nums w b n f) (i : Nat) (v : Int) : Nums (w.setCell ⟨b, i, none⟩ (.int .i64 v)) b n (fun k => if k = i then v else f k) := by
  obtain ⟨cs, t, h1, h0, h2⟩ := h
  refine ⟨_, t, setAt h1 i _, by simpa using h0, fun k hk => ?_⟩
  rw [Array.getElem?_setIfInBounds]
  by_cases e : k = i
  · subst e; rw [if_pos rfl, if_pos (by omega)]; simp
  · rw [if_neg (fun f => e f.symm)]; simp only [e, if_false]; exact h2 k hk
theorem Nums.congr {w : World} {b n : Nat} {f g : Nat → Int} (h : Nums w b n f) (e : ∀ i, i < n → f i = g i) : Nums w b n g := by
  obtain ⟨cs, t, h1, h0, h2⟩ := h
  exact ⟨cs, t, h1, h0, fun i hi => by rw [h2 i hi, e i hi]⟩
/-- Where a joint lies. -/
structure JB where
  jb : Nat
  lb : Nat
  eb : Nat
  sb : Nat
  zb : Nat
  lcap : Nat
def JB.Foot (B : JB) (k : Nat) : Prop := k = B.jb ∨ k = B.lb ∨ k = B.eb ∨ k = B.sb ∨ k = B.zb
structure JB.Apart (B : JB) : Prop where
  a1 : B.jb ≠ B.lb
  a2 : B.jb ≠ B.eb
  a3 : B.jb ≠ B.sb
  a4 : B.jb ≠ B.zb
  a5 : B.sb ≠ B.lb
  a6 : B.sb ≠ B.eb
  a7 : B.sb ≠ B.zb
  a8 : B.zb ≠ B.lb
  a9 : B.zb ≠ B.eb
/-- The joint's own block. -/
def Head (w : World) (B : JB) (N M : Nat) (nx : Int → Int) : Prop := ∃ cs, w.heap[B.jb]? = some (.cells cs 99 (0, 0)) ∧ cs.size = 203 ∧ cs[0]? = some (.slice (some ⟨B.lb, 0, none⟩) N B.lcap) ∧ cs[1]? = some (.slice (some ⟨B.eb, 0, none⟩) M M) ∧ (∀ v, 1 ≤ v → v < 199 → cs[2 + v]? = some (.int .i64 (nx (-(v : Int))))) ∧ cs[201]? = some (.slice (some ⟨B.sb, 0, none⟩) M M) ∧ cs[202]? = some (.slice (some ⟨B.zb, 0, none⟩) M M)
theorem Head.kept {S : Nat → Prop} {w w' : World} {B : JB} {N M : Nat} {nx : Int → Int} (h : Head w B N M nx) (hk : Kept S w w') (hs : ¬ S B.jb) : Head w' B N M nx := by
  obtain ⟨cs, h1, h2⟩ := h
  exact ⟨cs, hk.at h1 hs, h2⟩
theorem Head.cells {w : World} {B : JB} {N M : Nat} {nx : Int → Int} (h : Head w B N M nx) : w.cell? ⟨B.jb, 0, none⟩ = some (.slice (some ⟨B.lb, 0, none⟩) N B.lcap) ∧ w.cell? ⟨B.jb, 1, none⟩ = some (.slice (some ⟨B.eb, 0, none⟩) M M) ∧ w.cell? ⟨B.jb, 201, none⟩ = some (.slice (some ⟨B.sb, 0, none⟩) M M) ∧ w.cell? ⟨B.jb, 202, none⟩ = some (.slice (some ⟨B.zb, 0, none⟩) M M) ∧ B.jb < w.heap.size := by
  obtain ⟨cs, h1, h2, h3, h4, h5, h6, h7⟩ := h
  exact ⟨by rw [cellAt h1]; exact h3, by rw [cellAt h1]; exact h4, by rw [cellAt h1]; exact h6, by rw [cellAt h1]; exact h7, lt_of_at h1⟩
theorem Head.var {w : World} {B : JB} {N M : Nat} {nx : Int → Int} (h : Head w B N M nx) {v : Nat} (h1 : 1 ≤ v) (h2 : v < 199) : w.cell? ⟨B.jb, 2 + v, none⟩ = some (.int .i64 (nx (-(v : Int)))) ∧ w.frozen? ⟨B.jb, 2 + v, none⟩ = false := by
  obtain ⟨cs, g1, g2, g3, g4, g5, g6, g7⟩ := h
  exact ⟨by rw [cellAt g1]; exact g5 v h1 h2, frozenAt g1 _⟩
theorem Head.set {w : World} {B : JB} {N M : Nat} {nx : Int → Int} (h : Head w B N M nx) {v : Nat} (h1 : 1 ≤ v) (h2 : v < 199) (x : Int) : Head (w.setCell ⟨B.jb, 2 + v, none⟩ (.int .i64 x)) B N M (fun y => if y = -(v : Int) then x else nx y) := by
  obtain ⟨cs, g1, g2, g3, g4, g5, g6, g7⟩ := h
  refine ⟨_, setAt g1 _ _, by simpa using g2, ?_, ?_, ?_, ?_, ?_⟩
  · rw [Array.getElem?_setIfInBounds, if_neg (by omega)]; exact g3
  · rw [Array.getElem?_setIfInBounds, if_neg (by omega)]; exact g4
  · intro k hk1 hk2
    rw [Array.getElem?_setIfInBounds]
    by_cases e : k = v
    · subst e; rw [if_pos rfl, if_pos (by omega)]; simp
    · rw [if_neg (by omega)]; simp only [show ¬ (-(k : Int) = -(v : Int)) by omega, if_false]; exact g5 k hk1 hk2
  · rw [Array.getElem?_setIfInBounds, if_neg (by omega)]; exact g6
  · rw [Array.getElem?_setIfInBounds, if_neg (by omega)]; exact g7
theorem Head.congr {w : World} {B : JB} {N M : Nat} {nx ny : Int → Int} (h : Head w B N M nx) (e : ∀ v : Nat, 1 ≤ v → v < 199 → nx (-(v : Int)) = ny (-(v : Int))) : Head w B N M ny := by
  obtain ⟨cs, g1, g2, g3, g4, g5, g6, g7⟩ := h
  exact ⟨cs, g1, g2, g3, g4, fun v a b => by rw [g5 v a b, e v a b], g6, g7⟩
/-- The joint. -/
structure JC (L : List Sym) (B : JB) (w : World) (J : List Int) (nx : Int → Int) (sz : Nat → Int) : Prop where
  head : Head w B J.length J.length nx
  list : Nums w B.lb J.length (fun i => at' J i)
  ends : Nums w B.eb J.length (fun i => (endN L J i : Int))
  same : Nums w B.sb J.length (fun i => nx i)
  sizes : Nums w B.zb J.length sz
  ap : B.Apart
theorem JC.kept {L : List Sym} {S : Nat → Prop} {w w' : World} {B : JB} {J : List Int} {nx : Int → Int} {sz : Nat → Int} (h : JC L B w J nx sz) (hk : Kept S w w') (hs : ∀ k, B.Foot k → ¬ S k) : JC L B w' J nx sz :=
  ⟨h.head.kept hk (hs _ (.inl rfl)), h.list.kept hk (hs _ (.inr (.inl rfl))), h.ends.kept hk (hs _ (.inr (.inr (.inl rfl)))), h.same.kept hk (hs _ (.inr (.inr (.inr (.inl rfl))))), h.sizes.kept hk (hs _ (.inr (.inr (.inr (.inr rfl))))), h.ap⟩
theorem JC.lt {L : List Sym} {w : World} {B : JB} {J : List Int} {nx : Int → Int} {sz : Nat → Int} (h : JC L B w J nx sz) {k : Nat} (hk : B.Foot k) : k < w.heap.size := by
  rcases hk with e | e | e | e | e <;> subst e
  · exact h.head.cells.2.2.2.2
  · exact h.list.lt
  · exact h.ends.lt
  · exact h.same.lt
  · exact h.sizes.lt
/-- Where it is kept to which part a part leads. -/
def nxA (B : JB) (x : Int) : Addr := if x < 0 then ⟨B.jb, 2 + (-x).toNat, none⟩ else ⟨B.sb, x.toNat, none⟩
def nxB (B : JB) (x : Int) : Nat := if x < 0 then B.jb else B.sb
theorem nxA_block (B : JB) (x : Int) : (nxA B x).block = nxB B x := by unfold nxA nxB; split <;> rfl
theorem JC.next {L : List Sym} {w : World} {B : JB} {J : List Int} {nx : Int → Int} {sz : Nat → Int} (h : JC L B w J nx sz) {x : Int} (hx : UPart J x) : w.cell? (nxA B x) = some (.int .i64 (nx x)) ∧ w.frozen? (nxA B x) = false := by
  unfold nxA
  split
  · have := h.head.var (v := (-x).toNat) (by omega) (by have := hx.1; omega)
    rw [show -(((-x).toNat : Nat) : Int) = x by omega] at this
    exact this
  · have := h.same.cell (i := x.toNat) (by have := hx.2; omega)
    rw [show ((x.toNat : Nat) : Int) = x by omega] at this
    exact this
theorem JC.put {L : List Sym} {w : World} {B : JB} {J : List Int} {nx : Int → Int} {sz : Nat → Int} (h : JC L B w J nx sz) {x : Int} (hx : UPart J x) (v : Int) : JC L B (w.setCell (nxA B x) (.int .i64 v)) J (fun y => if y = x then v else nx y) sz ∧ Kept (fun k => k = nxB B x) w (w.setCell (nxA B x) (.int .i64 v)) := by
  have hk : Kept (fun k => k = nxB B x) w (w.setCell (nxA B x) (.int .i64 v)) := Kept.setCell (Kept.refl _ w) (fun _ => nxA_block B x) _
  refine ⟨?_, hk⟩
  have ap := h.ap
  by_cases hn : x < 0
  · have e1 : nxB B x = B.jb := by unfold nxB; rw [if_pos hn]
    have e2 : nxA B x = ⟨B.jb, 2 + (-x).toNat, none⟩ := by unfold nxA; rw [if_pos hn]
    have hh := h.head.set (v := (-x).toNat) (by omega) (by have := hx.1; omega) v
    rw [show -(((-x).toNat : Nat) : Int) = x by omega] at hh
    rw [e1] at hk
    rw [e2] at hk ⊢
    refine ⟨hh, h.list.kept hk (fun e => ap.a1 e.symm), h.ends.kept hk (fun e => ap.a2 e.symm), (h.same.kept hk (fun e => ap.a3 e.symm)).congr ?_, h.sizes.kept hk (fun e => ap.a4 e.symm), ap⟩
    intro i _; rw [if_neg (by omega)]
  · have e1 : nxB B x = B.sb := by unfold nxB; rw [if_neg hn]
    have e2 : nxA B x = ⟨B.sb, x.toNat, none⟩ := by unfold nxA; rw [if_neg hn]
    have hh := h.same.set x.toNat v
    rw [e1] at hk
    rw [e2] at hk ⊢
    refine ⟨(h.head.kept hk ap.a3).congr ?_, h.list.kept hk (fun e => ap.a5 e.symm), h.ends.kept hk (fun e => ap.a6 e.symm), hh.congr ?_, h.sizes.kept hk (fun e => ap.a7 e.symm), ap⟩
    · intro k h1 h2; rw [if_neg (by omega)]
    · intro i _
      by_cases e : i = x.toNat
      · rw [if_pos e, if_pos (by omega)]
      · rw [if_neg e, if_neg (by omega)]
/-- What is kept leads, step by step, to the leaders. -/
structure Led (J : List Int) (nx ld : Int → Int) (ρ : Int → Nat) : Prop where
  part : ∀ x, UPart J x → UPart J (nx x)
  lead : ∀ x, UPart J x → ld (nx x) = ld x
  stop : ∀ x, UPart J x → (nx x = x ↔ ld x = x)
  down : ∀ x, UPart J x → nx x ≠ x → ρ (nx x) < ρ x
theorem Led.halve {J : List Int} {nx ld : Int → Int} {ρ : Int → Nat} (h : Led J nx ld ρ) {x : Int} (hx : UPart J x) (hn : nx x ≠ x) : Led J (fun y => if y = x then nx (nx x) else nx y) ld ρ ∧ ρ (nx (nx x)) < ρ x := by
  have p1 := h.part x hx
  have d1 := h.down x hx hn
  have d2 : ρ (nx (nx x)) ≤ ρ (nx x) := by
    by_cases e : nx (nx x) = nx x
    · rw [e]; exact Nat.le_refl _
    · exact Nat.le_of_lt (h.down _ p1 e)
  refine ⟨⟨?_, ?_, ?_, ?_⟩, by omega⟩ <;> intro y hy <;> by_cases e : y = x
  · simp only [e, if_true]; exact h.part _ p1
  · simp only [e, if_false]; exact h.part _ hy
  · simp only [e, if_true]; rw [h.lead _ p1, h.lead _ hx]
  · simp only [e, if_false]; exact h.lead _ hy
  · simp only [e, if_true]
    refine ⟨fun f => ?_, fun f => absurd ((h.stop x hx).2 f) hn⟩
    rw [f] at d2; omega
  · simp only [e, if_false]; exact h.stop _ hy
  · simp only [e, if_true]; intro _; omega
  · simp only [e, if_false]; exact h.down _ hy
theorem Led.join {J : List Int} {nx ld : Int → Int} {ρ : Int → Nat} (h : Led J nx ld ρ) {p q : Int} (hp : UPart J p) (hq : UPart J q) (lp : ld p = p) (lq : ld q = q) (hpq : p ≠ q) : Led J (fun y => if y = p then q else nx y) (un p q ld) (fun x => ρ x + if ld x = p then ρ q + 1 else 0) := by
  have u1 : ∀ x, ld x = p → un p q ld x = q := fun x e => by unfold un; rw [if_pos e]
  have u2 : ∀ x, ld x ≠ p → un p q ld x = ld x := fun x e => by unfold un; rw [if_neg e]
  have lqp : ld q ≠ p := by rw [lq]; exact fun f => hpq f.symm
  refine ⟨?_, ?_, ?_, ?_⟩ <;> intro y hy <;> by_cases e : y = p
  · simp only [e, if_true]; exact hq
  · simp only [e, if_false]; exact h.part _ hy
  · simp only [e, if_true]; rw [u2 q lqp, u1 p lp, lq]
  · simp only [e, if_false]
    have := h.lead y hy
    unfold un; rw [this]
  · simp only [e, if_true]; rw [u1 p lp]
  · simp only [e, if_false]
    by_cases f : ld y = p
    · rw [u1 y f]
      refine ⟨fun g => ?_, fun g => ?_⟩
      · have := (h.stop y hy).1 g; rw [f] at this; exact absurd this.symm e
      · rw [← g, lq] at f; exact absurd f.symm hpq
    · rw [u2 y f]; exact h.stop y hy
  · simp only [e, if_true]; intro _; rw [if_neg lqp, if_pos lp]; omega
  · simp only [e, if_false]
    intro hn
    have := h.down y hy hn
    rw [h.lead y hy]; omega
/-- A joint whose parts have these leaders. -/
def JAt (L : List Sym) (B : JB) (w : World) (J : List Int) (ld : Int → Int) (sz : Nat → Int) : Prop := ∃ nx ρ, JC L B w J nx sz ∧ Led J nx ld ρ
theorem JAt.kept {L : List Sym} {S : Nat → Prop} {w w' : World} {B : JB} {J : List Int} {ld : Int → Int} {sz : Nat → Int} (h : JAt L B w J ld sz) (hk : Kept S w w') (hs : ∀ k, B.Foot k → ¬ S k) : JAt L B w' J ld sz := by
  obtain ⟨nx, ρ, h1, h2⟩ := h
  exact ⟨nx, ρ, h1.kept hk hs, h2⟩
theorem unext_any {L : List Sym} {w : World} {B : JB} {J : List Int} {nx : Int → Int} {sz : Nat → Int} (h : JC L B w J nx sz) {x : Int} (hx : UPart J x) :
    Calls Try.prog 66 #[.pointer (some ⟨B.jb, 0, none⟩), .int .i64 x] w fun e w' => e = .returned (.pointer (some (nxA B x))) ∧ w' = w := by
  obtain ⟨c0, c1, c2, c3, c4⟩ := h.head.cells
  have h1 := hx.1
  have h2 := hx.2
  clear h hx
  by_cases hn : x < 0
  · obtain ⟨v, hv⟩ : ∃ v : Nat, x = -(v : Int) := ⟨(-x).toNat, by omega⟩
    subst hv
    have e : nxA B (-(v : Int)) = ⟨B.jb, 2 + v, none⟩ := by unfold nxA; rw [if_pos hn]; congr 2; omega
    rw [e]
    have i1 : (0 : Int) ≤ (v : Int) := by omega
    have i2 : (v : Int) < 199 := by omega
    go_enter Try.func66, Try.ntmps66
    go_wp2
    go_returns
    exact ⟨rfl, rfl⟩
  · obtain ⟨v, hv⟩ : ∃ v : Nat, x = (v : Int) := ⟨x.toNat, by omega⟩
    subst hv
    have e : nxA B (v : Int) = ⟨B.sb, v, none⟩ := by unfold nxA; rw [if_neg hn]; congr 1
    rw [e]
    have i1 : (0 : Int) ≤ (v : Int) := by omega
    go_enter Try.func66, Try.ntmps66
    go_wp2
    go_returns
    exact ⟨rfl, rfl⟩
end Go.Proofs.Ythhcnllabhfejaa
/- A joint of package unify while it is laid. -/
namespace Go.Proofs.Ythhcnllabhfejaa
set_option maxRecDepth 100000
set_option linter.unusedVariables false
open Go.RowKit
theorem zeros_joint : Try.zeroCells99 = #[.slice none 0 0, .slice none 0 0] ++ Array.replicate 199 (.int .i64 0) ++ #[.slice none 0 0, .slice none 0 0] := by kernel_rfl
structure ZOk (Z : Array Value) : Prop where
  size : Z.size = 203
  var : ∀ v, 1 ≤ v → v < 199 → Z[2 + v]? = some (.int .i64 0)
theorem zok_joint : ZOk Try.zeroCells99 := by
  rw [zeros_joint]
  refine ⟨by simp, fun v h1 h2 => ?_⟩
  rw [Array.getElem?_append_left (by simp; omega), Array.getElem?_append_right (by simp), Array.getElem?_eq_getElem (by simp; omega)]
  simp
def JZ (Z : Array Value) (l e s z : Value) : Array Value := (((Z.setIfInBounds 0 l).setIfInBounds 1 e).setIfInBounds 201 s).setIfInBounds 202 z
theorem JZ_size {Z : Array Value} (hZ : ZOk Z) (l e s z : Value) : (JZ Z l e s z).size = 203 := by simp [JZ, hZ.size]
theorem JZ_0 {Z : Array Value} (hZ : ZOk Z) (l e s z : Value) : (JZ Z l e s z)[0]? = some l := by
  have := JZ_size hZ l e s z
  simp only [JZ, Array.size_setIfInBounds] at this
  simp only [JZ]
  rw [Array.getElem?_setIfInBounds, if_neg (by omega), Array.getElem?_setIfInBounds, if_neg (by omega), Array.getElem?_setIfInBounds, if_neg (by omega), Array.getElem?_setIfInBounds, if_pos rfl, if_pos (by omega)]
theorem JZ_1 {Z : Array Value} (hZ : ZOk Z) (l e s z : Value) : (JZ Z l e s z)[1]? = some e := by
  have := JZ_size hZ l e s z
  simp only [JZ, Array.size_setIfInBounds] at this
  simp only [JZ]
  rw [Array.getElem?_setIfInBounds, if_neg (by omega), Array.getElem?_setIfInBounds, if_neg (by omega), Array.getElem?_setIfInBounds, if_pos rfl, if_pos (by simp; omega)]
theorem JZ_201 {Z : Array Value} (hZ : ZOk Z) (l e s z : Value) : (JZ Z l e s z)[201]? = some s := by
  have := JZ_size hZ l e s z
  simp only [JZ, Array.size_setIfInBounds] at this
  simp only [JZ]
  rw [Array.getElem?_setIfInBounds, if_neg (by omega), Array.getElem?_setIfInBounds, if_pos rfl, if_pos (by simp; omega)]
theorem JZ_202 {Z : Array Value} (hZ : ZOk Z) (l e s z : Value) : (JZ Z l e s z)[202]? = some z := by
  have := JZ_size hZ l e s z
  simp only [JZ, Array.size_setIfInBounds] at this
  simp only [JZ]
  rw [Array.getElem?_setIfInBounds, if_pos rfl, if_pos (by simp; omega)]
theorem JZ_v {Z : Array Value} (hZ : ZOk Z) (l e s z : Value) {v : Nat} (h1 : 1 ≤ v) (h2 : v < 199) : (JZ Z l e s z)[2 + v]? = some (.int .i64 0) := by
  simp only [JZ]
  rw [Array.getElem?_setIfInBounds, if_neg (by omega), Array.getElem?_setIfInBounds, if_neg (by omega), Array.getElem?_setIfInBounds, if_neg (by omega), Array.getElem?_setIfInBounds, if_neg (by omega)]
  exact hZ.var v h1 h2
theorem info_intS : (Try.prog.info? 3).map (fun i => (i.zero, i.size, i.bytes)) = some (some (.int .i64 0), 1, 8) := by kernel_rfl
/-- The zero cells of a row. -/
theorem umade_zero (n i : Nat) (h : i < n) : (madeCells #[Value.int .i64 0] n)[i]? = some (.int .i64 0) := by
  simp [madeCells, h, Nat.mod_one]
theorem at_ar {n b : Nat} {w : World} {L : List Sym} (h : Sg n w b L) (x : Int) : Calls Try.prog 62 #[.pointer (some ⟨b, 0, none⟩), .int .i64 x] w fun e w' => ∃ s d c, e = .returned (.tuple #[.agg #[.string s, .int .i64 ((arN L x : Nat) : Int), .bool d], .int .i64 c]) ∧ Same0 w w' := by
  obtain ⟨⟨sv, mr, h1, _⟩, ha⟩ := h
  by_cases hx : x < 0 ∨ (L.length : Int) ≤ x
  · refine (at_no h1 x hx).mono ?_
    rintro e w' ⟨rfl, hk⟩
    exact ⟨_, _, _, by rw [ar_no hx]; rfl, hk⟩
  · obtain ⟨i, rfl⟩ : ∃ i : Nat, x = (i : Int) := ⟨x.toNat, by omega⟩
    have hi : i < L.length := by omega
    refine (at_yes h1 i hi).mono ?_
    rintro e w' ⟨rfl, hk⟩
    exact ⟨_, _, _, by rw [ar_of ha hi], hk⟩
/-- While a joint is laid. -/
structure JJ (w0 : World) (B : JB) (w : World) (xs : List Int) (M : Nat) (nx : Int → Int) (en sa : Nat → Int) : Prop where
  head : Head w B xs.length M nx
  row : w.ownsRow w0.heap.size 3 1 (.slice (some ⟨B.lb, 0, none⟩) xs.length M) xs.length (iv xs)
  cap : B.lcap = M
  ends : Nums w B.eb M en
  same : Nums w B.sb M sa
  sizes : Nums w B.zb M (fun _ => 0)
  ap : B.Apart
  ap2 : B.eb ≠ B.lb
  new : ∀ k, B.Foot k → w0.heap.size ≤ k
  kept : Same0 w0 w
theorem JJ.same0 {w0 : World} {B : JB} {w w' : World} {xs : List Int} {M : Nat} {nx : Int → Int} {en sa : Nat → Int} (h : JJ w0 B w xs M nx en sa) (hk : Same0 w w') : JJ w0 B w' xs M nx en sa :=
  ⟨h.head.kept hk (fun f => f), hk.row h.row (fun _ _ f => f), h.cap, h.ends.kept hk (fun f => f), h.same.kept hk (fun f => f), h.sizes.kept hk (fun f => f), h.ap, h.ap2, h.new, h.kept.trans' hk⟩
theorem Head.set0 {w : World} {B : JB} {N M : Nat} {nx : Int → Int} (h : Head w B N M nx) (N' : Nat) : Head (w.setCell ⟨B.jb, 0, none⟩ (.slice (some ⟨B.lb, 0, none⟩) N' B.lcap)) B N' M nx := by
  obtain ⟨cs, g1, g2, g3, g4, g5, g6, g7⟩ := h
  refine ⟨_, setAt g1 _ _, by simpa using g2, ?_, ?_, ?_, ?_, ?_⟩
  · rw [Array.getElem?_setIfInBounds, if_pos rfl, if_pos (by omega)]
  · rw [Array.getElem?_setIfInBounds, if_neg (by omega)]; exact g4
  · intro k hk1 hk2
    rw [Array.getElem?_setIfInBounds, if_neg (by omega)]; exact g5 k hk1 hk2
  · rw [Array.getElem?_setIfInBounds, if_neg (by omega)]; exact g6
  · rw [Array.getElem?_setIfInBounds, if_neg (by omega)]; exact g7
theorem Head.setNo {w : World} {B : JB} {N M : Nat} {nx : Int → Int} (h : Head w B N M nx) (x : Value) : Head (w.setCell ⟨B.jb, 2, none⟩ x) B N M nx := by
  obtain ⟨cs, g1, g2, g3, g4, g5, g6, g7⟩ := h
  refine ⟨_, setAt g1 _ _, by simpa using g2, ?_, ?_, ?_, ?_, ?_⟩
  · rw [Array.getElem?_setIfInBounds, if_neg (by omega)]; exact g3
  · rw [Array.getElem?_setIfInBounds, if_neg (by omega)]; exact g4
  · intro k hk1 hk2
    rw [Array.getElem?_setIfInBounds, if_neg (by omega)]; exact g5 k hk1 hk2
  · rw [Array.getElem?_setIfInBounds, if_neg (by omega)]; exact g6
  · rw [Array.getElem?_setIfInBounds, if_neg (by omega)]; exact g7
theorem head_new {Z : Array Value} (hZ : ZOk Z) (w : World) (B : JB) (M : Nat) (hj : B.jb = w.heap.size) (hc : B.lcap = M) : Head (w.alloc (.cells (JZ Z (.slice (some ⟨B.lb, 0, none⟩) 0 M) (.slice (some ⟨B.eb, 0, none⟩) M M) (.slice (some ⟨B.sb, 0, none⟩) M M) (.slice (some ⟨B.zb, 0, none⟩) M M)) 99)) B 0 M (fun _ => 0) := by
  refine ⟨_, by rw [hj]; exact heap_alloc_new _ _, JZ_size hZ _ _ _ _, ?_, ?_, ?_, ?_, ?_⟩
  · rw [hc]; exact JZ_0 hZ _ _ _ _
  · exact JZ_1 hZ _ _ _ _
  · exact fun v h1 h2 => JZ_v hZ _ _ _ _ h1 h2
  · exact JZ_201 hZ _ _ _ _
  · exact JZ_202 hZ _ _ _ _
/-- More behind the list. -/
theorem JJ.grow {w0 : World} {B : JB} {w w1 : World} {xs ys : List Int} {M : Nat} {nx : Int → Int} {en sa : Nat → Int} (h : JJ w0 B w xs M nx en sa) (hk : Kept (fun k => k = B.lb) w w1) (hr : w1.ownsRow w0.heap.size 3 1 (.slice (some ⟨B.lb, 0, none⟩) (xs ++ ys).length M) (xs ++ ys).length (iv (xs ++ ys))) : JJ w0 B (w1.setCell ⟨B.jb, 0, none⟩ (.slice (some ⟨B.lb, 0, none⟩) (xs ++ ys).length M)) (xs ++ ys) M nx en sa := by
  have hk2 : Kept (fun k => k = B.jb) w1 (w1.setCell ⟨B.jb, 0, none⟩ (.slice (some ⟨B.lb, 0, none⟩) (xs ++ ys).length M)) := Kept.setCell (S := fun k => k = B.jb) (p := ⟨B.jb, 0, none⟩) (Kept.refl _ _) (fun _ => rfl) _
  have ap := h.ap
  have hh := (h.head.kept hk ap.a1).set0 (xs ++ ys).length
  rw [h.cap] at hh
  refine ⟨hh, hk2.row hr (fun k e f => by simp [Value.ownBlock] at e; exact ap.a1 (by omega)), h.cap, (h.ends.kept hk h.ap2).kept hk2 (fun e => ap.a2 e.symm), (h.same.kept hk ap.a5).kept hk2 (fun e => ap.a3 e.symm), (h.sizes.kept hk ap.a8).kept hk2 (fun e => ap.a4 e.symm), ap, h.ap2, h.new, ?_⟩
  have k1 : Same0 w0 w1 := h.kept.trans hk (fun i hi e => by have := h.new B.lb (.inr (.inl rfl)); omega)
  exact k1.trans hk2 (fun i hi e => by have := h.new B.jb (.inl rfl); omega)
theorem JJ.stand {w0 : World} {B : JB} {w : World} {xs : List Int} {M : Nat} {nx : Int → Int} {en sa : Nat → Int} (h : JJ w0 B w xs M nx en sa) {v : Nat} (hv : v < 199) (x : Int) : JJ w0 B (w.setCell ⟨B.jb, 2 + v, none⟩ (.int .i64 x)) xs M (fun y => if y = -(v : Int) then x else nx y) en sa := by
  have hk2 : Kept (fun k => k = B.jb) w (w.setCell ⟨B.jb, 2 + v, none⟩ (.int .i64 x)) := Kept.setCell (S := fun k => k = B.jb) (p := ⟨B.jb, 2 + v, none⟩) (Kept.refl _ _) (fun _ => rfl) _
  have ap := h.ap
  have hh : Head (w.setCell ⟨B.jb, 2 + v, none⟩ (.int .i64 x)) B xs.length M (fun y => if y = -(v : Int) then x else nx y) := by
    by_cases h0 : v = 0
    · subst h0
      exact (h.head.setNo _).congr (fun u h1 h2 => by rw [if_neg (by omega)])
    · exact h.head.set (by omega) hv x
  exact ⟨hh, hk2.row h.row (fun k e f => by simp [Value.ownBlock] at e; exact ap.a1 (by omega)), h.cap, h.ends.kept hk2 (fun e => ap.a2 e.symm), h.same.kept hk2 (fun e => ap.a3 e.symm), h.sizes.kept hk2 (fun e => ap.a4 e.symm), ap, h.ap2, h.new, h.kept.trans hk2 (fun i hi e => by have := h.new B.jb (.inl rfl); omega)⟩
theorem JJ.setSame {w0 : World} {B : JB} {w : World} {xs : List Int} {M : Nat} {nx : Int → Int} {en sa : Nat → Int} (h : JJ w0 B w xs M nx en sa) (i : Nat) (x : Int) : JJ w0 B (w.setCell ⟨B.sb, i, none⟩ (.int .i64 x)) xs M nx en (fun k => if k = i then x else sa k) := by
  have hk2 : Kept (fun k => k = B.sb) w (w.setCell ⟨B.sb, i, none⟩ (.int .i64 x)) := Kept.setCell (S := fun k => k = B.sb) (p := ⟨B.sb, i, none⟩) (Kept.refl _ _) (fun _ => rfl) _
  have ap := h.ap
  exact ⟨h.head.kept hk2 ap.a3, hk2.row h.row (fun k e f => by simp [Value.ownBlock] at e; exact ap.a5 (by omega)), h.cap, h.ends.kept hk2 (fun e => ap.a6 e.symm), h.same.set i x, h.sizes.kept hk2 (fun e => ap.a7 e.symm), ap, h.ap2, h.new, h.kept.trans hk2 (fun i hi e => by have := h.new B.sb (.inr (.inr (.inr (.inl rfl)))); omega)⟩
theorem JJ.setEnd {w0 : World} {B : JB} {w : World} {xs : List Int} {M : Nat} {nx : Int → Int} {en sa : Nat → Int} (h : JJ w0 B w xs M nx en sa) (i : Nat) (x : Int) : JJ w0 B (w.setCell ⟨B.eb, i, none⟩ (.int .i64 x)) xs M nx (fun k => if k = i then x else en k) sa := by
  have hk2 : Kept (fun k => k = B.eb) w (w.setCell ⟨B.eb, i, none⟩ (.int .i64 x)) := Kept.setCell (S := fun k => k = B.eb) (p := ⟨B.eb, i, none⟩) (Kept.refl _ _) (fun _ => rfl) _
  have ap := h.ap
  exact ⟨h.head.kept hk2 ap.a2, hk2.row h.row (fun k e f => by simp [Value.ownBlock] at e; exact h.ap2 (by omega)), h.cap, h.ends.set i x, h.same.kept hk2 ap.a6, h.sizes.kept hk2 ap.a9, ap, h.ap2, h.new, h.kept.trans hk2 (fun i hi e => by have := h.new B.eb (.inr (.inr (.inl rfl))); omega)⟩
theorem JJ.congr {w0 : World} {B : JB} {w : World} {xs : List Int} {M : Nat} {nx ny : Int → Int} {en sa en' sa' : Nat → Int} (h : JJ w0 B w xs M nx en sa) (e1 : ∀ v : Nat, 1 ≤ v → v < 199 → nx (-(v : Int)) = ny (-(v : Int))) (e2 : ∀ i, i < M → en i = en' i) (e3 : ∀ i, i < M → sa i = sa' i) : JJ w0 B w xs M ny en' sa' :=
  ⟨h.head.congr e1, h.row, h.cap, h.ends.congr e2, h.same.congr e3, h.sizes, h.ap, h.ap2, h.new, h.kept⟩
theorem nums_new (w : World) (n : Nat) : Nums (w.alloc (.cells (madeCells #[.int .i64 0] n) 3)) w.heap.size n (fun _ => 0) :=
  ⟨_, _, heap_alloc_new _ _, by rw [size_madeCells]; exact Nat.le_refl _, fun i hi => umade_zero n i hi⟩
/-- A joint as join makes it. -/
theorem jj_new {Z : Array Value} (hZ : ZOk Z) {w0 : World} (M h p1 p2 p3 p4 : Nat) (hh : h = w0.heap.size) (hM : M ≤ maxLen) (q1 : h ≤ p1 ∧ p1 ≤ h + 3) (q2 : h ≤ p2 ∧ p2 ≤ h + 3) (q3 : h ≤ p3 ∧ p3 ≤ h + 3) (q4 : h ≤ p4 ∧ p4 ≤ h + 3) (d : p1 ≠ p2 ∧ p1 ≠ p3 ∧ p1 ≠ p4 ∧ p2 ≠ p3 ∧ p2 ≠ p4 ∧ p3 ≠ p4) (n : Nat) :
    JJ w0 ⟨h + 4, p1, p2, p3, p4, M⟩ ((((((w0.alloc (.cells (madeCells #[.int .i64 0] M) 3)).alloc (.cells (madeCells #[.int .i64 0] M) 3)).alloc (.cells (madeCells #[.int .i64 0] M) 3)).alloc (.cells (madeCells #[.int .i64 0] M) 3)).alloc (.cells (JZ Z (.slice (some ⟨p1, 0, none⟩) 0 M) (.slice (some ⟨p2, 0, none⟩) M M) (.slice (some ⟨p3, 0, none⟩) M M) (.slice (some ⟨p4, 0, none⟩) M M)) 99)).drewN n) [] M (fun _ => 0) (fun _ => 0) (fun _ => 0) := by
  subst hh
  obtain ⟨w1, e1⟩ : ∃ w1, w1 = w0.alloc (.cells (madeCells #[.int .i64 0] M) 3) := ⟨_, rfl⟩
  obtain ⟨w2, e2⟩ : ∃ w2, w2 = w1.alloc (.cells (madeCells #[.int .i64 0] M) 3) := ⟨_, rfl⟩
  obtain ⟨w3, e3⟩ : ∃ w3, w3 = w2.alloc (.cells (madeCells #[.int .i64 0] M) 3) := ⟨_, rfl⟩
  obtain ⟨w4, e4⟩ : ∃ w4, w4 = w3.alloc (.cells (madeCells #[.int .i64 0] M) 3) := ⟨_, rfl⟩
  rw [← e1, ← e2, ← e3, ← e4]
  have z1 : w1.heap.size = w0.heap.size + 1 := by rw [e1, World.size_alloc]
  have z2 : w2.heap.size = w0.heap.size + 2 := by rw [e2, World.size_alloc, z1]
  have z3 : w3.heap.size = w0.heap.size + 3 := by rw [e3, World.size_alloc, z2]
  have z4 : w4.heap.size = w0.heap.size + 4 := by rw [e4, World.size_alloc, z3]
  have k1 : Same0 w0 w1 := by rw [e1]; exact (Kept.refl _ w0).alloc _
  have k2 : Same0 w1 w2 := by rw [e2]; exact (Kept.refl _ w1).alloc _
  have k3 : Same0 w2 w3 := by rw [e3]; exact (Kept.refl _ w2).alloc _
  have k4 : Same0 w3 w4 := by rw [e4]; exact (Kept.refl _ w3).alloc _
  have b1 : w4.heap[w0.heap.size]? = some (.cells (madeCells #[.int .i64 0] M) 3 (0, 0)) := ((k2.trans' k3).trans' k4).at0 (by rw [e1]; exact heap_alloc_new _ _)
  have b2 : w4.heap[w0.heap.size + 1]? = some (.cells (madeCells #[.int .i64 0] M) 3 (0, 0)) := (k3.trans' k4).at0 (by rw [← z1, e2]; exact heap_alloc_new _ _)
  have b3 : w4.heap[w0.heap.size + 2]? = some (.cells (madeCells #[.int .i64 0] M) 3 (0, 0)) := k4.at0 (by rw [← z2, e3]; exact heap_alloc_new _ _)
  have b4 : w4.heap[w0.heap.size + 3]? = some (.cells (madeCells #[.int .i64 0] M) 3 (0, 0)) := by rw [← z3, e4]; exact heap_alloc_new _ _
  have ball : ∀ p, w0.heap.size ≤ p → p ≤ w0.heap.size + 3 → w4.heap[p]? = some (.cells (madeCells #[.int .i64 0] M) 3 (0, 0)) := by
    intro p h1 h2
    rcases (show p = w0.heap.size ∨ p = w0.heap.size + 1 ∨ p = w0.heap.size + 2 ∨ p = w0.heap.size + 3 by omega) with e | e | e | e <;> rw [e] <;> assumption
  have hd := head_new hZ w4 ⟨w0.heap.size + 4, p1, p2, p3, p4, M⟩ M z4.symm rfl
  obtain ⟨w5, e5⟩ : ∃ w5, w5 = w4.alloc (.cells (JZ Z (.slice (some ⟨p1, 0, none⟩) 0 M) (.slice (some ⟨p2, 0, none⟩) M M) (.slice (some ⟨p3, 0, none⟩) M M) (.slice (some ⟨p4, 0, none⟩) M M)) 99) := ⟨_, rfl⟩
  simp only at hd
  rw [← e5] at hd ⊢
  have k5 : Same0 w4 w5 := by rw [e5]; exact (Kept.refl _ w4).alloc _
  have K : Same0 w0 w5 := (((k1.trans' k2).trans' k3).trans' k4).trans' k5
  have ball5 : ∀ p, w0.heap.size ≤ p → p ≤ w0.heap.size + 3 → Nums w5 p M (fun _ => 0) := fun p h1 h2 => ⟨_, _, k5.at0 (ball p h1 h2), by rw [size_madeCells]; exact Nat.le_refl _, fun i hi => umade_zero M i hi⟩
  have J5 : JJ w0 ⟨w0.heap.size + 4, p1, p2, p3, p4, M⟩ w5 [] M (fun _ => 0) (fun _ => 0) (fun _ => 0) := by
    refine ⟨hd, ⟨rfl, .inr ⟨p1, M, _, rfl, q1.1, k5.at0 (ball p1 q1.1 q1.2), Nat.zero_le _, hM, by rw [size_madeCells]; omega, rfl⟩⟩, rfl, ball5 p2 q2.1 q2.2, ball5 p3 q3.1 q3.2, ball5 p4 q4.1 q4.2, ⟨?_, ?_, ?_, ?_, ?_, ?_, ?_, ?_, ?_⟩, ?_, ?_, K⟩
    all_goals try (simp only; omega)
    intro k hk
    simp only [JB.Foot] at hk
    omega
  exact J5.same0 ((Kept.refl _ w5).drewN n)
end Go.Proofs.Ythhcnllabhfejaa
