/- The walks of Same (two lists of numbers) and Made (a signature of some symbols, the program's and the document's). -/
import Derived.Test.YthhcnllabhfejaaTermPlace
import Derived.Test.YthhcnllabhfejaaRefAdd
namespace Go.Proofs.Ythhcnllabhfejaa
set_option maxRecDepth 100000
set_option linter.unusedVariables false
open Go.RowKit
attribute [local go_sem ↓] Go.wp_at_zero Go.wp_at_succ
def sameB (xs ys : List Int) : Bool := decide (xs = ys)
theorem same_len {xs ys : List Int} (h : xs.length ≠ ys.length) : sameB xs ys = false := by
  simp [sameB]; intro e; exact h (by rw [e])
theorem take_eq_succ {xs ys : List Int} {k : Nat} (h : xs.take k = ys.take k) (hx : k < xs.length) (hy : k < ys.length) (he : xs[k] = ys[k]) : xs.take (k + 1) = ys.take (k + 1) := by
  rw [List.take_add_one, List.take_add_one, h, List.getElem?_eq_getElem hx, List.getElem?_eq_getElem hy, he]
set_option maxHeartbeats 2000000 in
theorem same_any {w : World} {ao bo : Option Addr} {acap bcap : Nat} {xs ys : List Int} (hx : IntsAt w ao xs) (hy : IntsAt w bo ys) (hm : xs.length ≤ maxLen) :
    Calls Try.prog 13 #[.slice ao xs.length acap, .slice bo ys.length bcap] w fun e w' => e = .returned (.bool (sameB xs ys)) ∧ Same0 w w' := by
  unfold maxLen at hm
  by_cases hl : xs.length = ys.length
  · have hl' : (xs.length : Int) = (ys.length : Int) := by omega
    go_enter Try.func13, Try.ntmps13
    go_wp2
    go_loopw [5] (fun i wr => ∃ k : Nat, k ≤ xs.length ∧ i = .int .i64 (k : Int) ∧ Hid (xs.take k = ys.take k) ∧ Same0 w wr) (fun i _ => xs.length - (intOf i).toNat)
    case atStart => exact ⟨0, Nat.zero_le _, rfl, by simp [Hid], Kept.refl _ _⟩
    case round =>
      obtain ⟨k, hk, rfl, ht, hs⟩ := hrel
      by_cases hlt : k < xs.length
      · have hlt' : k < ys.length := by omega
        obtain ⟨ab, ao', rfl, hab, hac⟩ := (hx.same hs).get hlt
        obtain ⟨bb, bo', rfl, hbb, hbc⟩ := (hy.same hs).get hlt'
        have i1 : (0 : Int) ≤ (k : Int) := by omega
        have i2 : (k : Int) < (xs.length : Int) := by omega
        have i3 : (k : Int) < (ys.length : Int) := by omega
        have d1 : wr.drew.cell? ⟨ab, ao' + k, none⟩ = some (.int .i64 xs[k]) := hac
        have d2 : wr.drew.cell? ⟨bb, bo' + k, none⟩ = some (.int .i64 ys[k]) := hbc
        by_cases he : xs[k] = ys[k]
        · have hn : Hid (xs.take (k + 1) = ys.take (k + 1)) := take_eq_succ ht.out hlt hlt' he
          have he' : (xs[k] == ys[k]) = true := by simpa using he
          go_wp2
          go_quiet (fail)
          go_wp2
          refine ⟨⟨k + 1, by omega, by go_num, hn, hs.drewN _⟩, by simp [intOf]; omega⟩
        · have H : Hid (sameB xs ys = false) := by
            show _ = _
            simp only [sameB, decide_eq_false_iff_not]
            intro e; subst e; exact he rfl
          have he' : (xs[k] == ys[k]) = false := by simpa using he
          go_wp2
          go_quiet (fail)
          go_wp2
          go_ret
          exact ⟨by rw [H.out]; rfl, hs.drewN _⟩
      · have H : Hid (sameB xs ys = true) := by
          have := ht.out
          rw [List.take_of_length_le (by omega), List.take_of_length_le (by omega)] at this
          show _ = _
          simpa [sameB] using this
        go_wp2
        go_ret
        exact ⟨by rw [H.out]; rfl, hs⟩
  · have hl' : ¬ (xs.length : Int) = (ys.length : Int) := by omega
    have H : Hid (sameB xs ys = false) := same_len hl
    go_enter Try.func13, Try.ntmps13
    go_wp2
    go_ret
    exact ⟨by rw [H.out]; rfl, Kept.refl _ _⟩
/-- The program's signature and the document's, of the same symbols, apart. -/
structure Both (n0 : Nat) (w0 w : World) (b rb : Nat) (L : List Sym) (sv : Value) (mr : Option Nat) (rv : Value) : Prop where
  sg : SigAt w b L sv mr
  rf : RefAt w rb L rv
  f : ∀ k, Foot b sv mr k → n0 ≤ k
  g : ∀ k, RFoot rb rv k → n0 ≤ k
  d : ∀ k, Foot b sv mr k → ¬ RFoot rb rv k
  k : Kept (From n0) w0 w
  a : Ars L
theorem Both.start (w : World) : Both w.heap.size w ((w.alloc (.cells #[.slice none 0 0, .map none] 73)).alloc (.cells #[.slice none 0 0] 52)) w.heap.size (w.heap.size + 1) [] (.slice none 0 0) none (.slice none 0 0) := by
  have k1 : Kept (fun _ => False) (w.alloc (.cells #[.slice none 0 0, .map none] 73)) ((w.alloc (.cells #[.slice none 0 0, .map none] 73)).alloc (.cells #[.slice none 0 0] 52)) := (Kept.refl _ _).alloc _
  have e1 : (w.alloc (.cells #[.slice none 0 0, .map none] 73)).heap.size = w.heap.size + 1 := by simp
  refine ⟨(sig_new w).kept k1 (fun _ _ f => f), ⟨?_, World.ownsRow_nil _ _ _ _, by simp [Value.ownBlock]⟩, ?_, ?_, ?_, ((Kept.refl _ w).alloc _).alloc _, fun x hx => by simp at hx⟩
  · rw [← e1]; exact heap_alloc_new _ _
  · rintro k (e | e | e)
    · omega
    · simp [Value.ownBlock] at e
    · simp at e
  · rintro k (e | e)
    · omega
    · simp [Value.ownBlock] at e
  · rintro k (e | e | e) (e' | e')
    · omega
    · simp [Value.ownBlock] at e'
    · simp [Value.ownBlock] at e
    · simp [Value.ownBlock] at e
    · simp at e
    · simp at e
theorem addL_ars {L : List Sym} (h : Ars L) (x : Sym) : Ars (addL L x) := by
  unfold addL
  split
  · rename_i hz
    intro y hy
    rcases List.mem_append.1 hy with hy | hy
    · exact h y hy
    · simp at hy; subst hy; exact add_ar hz
  · exact h
theorem Both.next {n0 : Nat} {w0 w w1 w2 : World} {b rb : Nat} {L : List Sym} {sv : Value} {mr : Option Nat} {rv : Value} (h : Both n0 w0 w b rb L sv mr rv) (x : Sym) (hn : n0 ≤ w.heap.size) {sv1 : Value} {mr1 : Option Nat}
    (h1 : SigAt w1 b (addL L x) sv1 mr1) (h2 : Kept (Foot b sv mr) w w1) (h3 : ∀ k, Foot b sv1 mr1 k → Foot b sv mr k ∨ w.heap.size ≤ k) (hr : RMoved w1 rb rv (addL L x) w2) : ∃ rv2, Both n0 w0 w2 b rb (addL L x) sv1 mr1 rv2 := by
  obtain ⟨rv2, r1, r2, r3⟩ := hr
  have hrl := h.rf.lt
  have dd : ∀ k, Foot b sv1 mr1 k → ¬ RFoot rb rv k := fun k hk hk' => by
    rcases h3 k hk with e | e
    · exact h.d k e hk'
    · have := hrl k hk'; omega
  have z1 := h2.size
  refine ⟨rv2, h1.kept r2 (fun k e => dd k e), r1, ?_, ?_, ?_, ?_, addL_ars h.a x⟩
  · intro k hk
    rcases h3 k hk with e | e
    · exact h.f k e
    · omega
  · intro k hk
    rcases r3 k hk with e | e
    · exact h.g k e
    · omega
  · intro k hk hk'
    rcases r3 k hk' with e | e
    · exact dd k hk e
    · have := sig_foot_lt h1 k hk; omega
  · exact (h.k.trans h2 (fun i _ e => h.f i e)).trans r2 (fun i _ e => h.g i e)
def madeL (xs : List Sym) : List Sym := xs.foldl addL []
theorem madeL_snoc {xs : List Sym} {k : Nat} (h : k < xs.length) : madeL (xs.take (k + 1)) = addL (madeL (xs.take k)) xs[k] := by
  rw [List.take_add_one, List.getElem?_eq_getElem h]
  unfold madeL
  rw [List.foldl_append]
  rfl
theorem from_below {w w' : World} (h : Kept (From w.heap.size) w w') : Same0 w w' := ⟨h.os, h.tape, h.output, h.size, fun k hk _ => h.block k hk (fun e => by omega)⟩
set_option maxHeartbeats 2000000 in
theorem made_any (ao : Option Addr) (len cap : Nat) (xs : List Sym) (w : World) (hx : SymsAt w ao len xs) (hm : len ≤ maxLen) :
    Calls Try.prog 10 #[.slice ao len cap] w fun e w' => ∃ b rv, e = .returned (.tuple #[.pointer (some ⟨b, 0, none⟩), rv]) ∧ Sg w'.heap.size w' b (madeL xs) ∧ Rl w'.heap.size w' rv (madeL xs) ∧ Same0 w w' := by
  unfold maxLen at hm
  go_enter Try.func10, Try.ntmps10
  go_wp2_with (first | (go_at_call 21; refine (new_any _).mono ?_; rintro e w' ⟨rfl, rfl⟩))
  go_loopw [6] (fun i wr => ∃ (k : Nat) (sv : Value) (mr : Option Nat) (rv : Value), k ≤ len ∧ i = .int .i64 (k : Int) ∧ Both w.heap.size w wr w.heap.size (w.heap.size + 1) (madeL (xs.take k)) sv mr rv) (fun i _ => len - (intOf i).toNat)
  case atStart => exact ⟨0, _, _, _, Nat.zero_le _, rfl, Both.start w⟩
  case round =>
    obtain ⟨k, sv, mr, rv, hk, rfl, hb⟩ := hrel
    have hlen := hb.sg.len
    by_cases hlt : k < len
    · obtain ⟨xl, xc, xw⟩ := hx.kept (from_below hb.k).below
      obtain ⟨xb, off, rfl, hxb, hxc⟩ := xc.resolve_left (by omega)
      have hkx : k < xs.length := by omega
      obtain ⟨x0, x1, x2⟩ := hxc k hkx
      have xsz := (xw xs[k] (List.getElem_mem hkx)).1
      have i1 : (0 : Int) ≤ (k : Int) := by omega
      have i2 : (k : Int) < (len : Int) := by omega
      have E1 : Hid (madeL (xs.take (k + 1)) = addL (madeL (xs.take k)) xs[k]) := madeL_snoc hkx
      have hn0 := hb.k.size
      have hxs := hx
      clear hxc xw xc xl
      generalize madeL (xs.take k) = L at *
      go_wp2_with fail
      refine (add_any hb.sg xs[k] xsz).mono ?_
      rintro e w1 ⟨rfl, sv1, mr1, h1, h2, h3⟩
      have hr1 : RefAt w1 (w.heap.size + 1) L rv := hb.rf.kept h2 (fun k hk' e => hb.d k e hk')
      have k1 : Kept (From w.heap.size) w w1 := hb.k.trans h2 (fun i _ e => hb.f i e)
      obtain ⟨y0, y1, y2⟩ : w1.cell? ⟨xb, off + k * 3, none⟩ = some (.string xs[k].name) ∧ w1.cell? ⟨xb, off + k * 3 + 1, none⟩ = some (.int .i64 xs[k].ar) ∧ w1.cell? ⟨xb, off + k * 3 + 2, none⟩ = some (.bool xs[k].df) := by
        obtain ⟨_, yc, _⟩ := hxs.kept (from_below k1).below
        obtain ⟨_, _, e, _, hyc⟩ := yc.resolve_left (by omega)
        simp only [Option.some.injEq, Addr.mk.injEq, and_true] at e
        rw [e.1, e.2]
        exact hyc k hkx
      clear x0 x1 x2
      go_wp2_with fail
      refine (radd_any hr1 hlen xs[k] xsz).mono ?_
      rintro e w2 ⟨rfl, hr⟩
      obtain ⟨rv2, hb2⟩ := hb.next xs[k] hn0 h1 h2 h3 hr
      go_wp2
      refine ⟨⟨k + 1, sv1, mr1, rv2, by omega, by go_num, ?_⟩, by simp [intOf]; omega⟩
      rw [E1.out]; exact hb2
    · have hxl := hx.1
      have E1 : xs.take k = xs := List.take_of_length_le (by omega)
      rw [E1] at hb hlen
      have r0 := hb.rf.c0
      clear E1
      go_wp2
      go_quiet (fail)
      go_wp2
      go_ret2
      have kd : Same0 wr (wr.drewN nq) := (Kept.refl _ _).drewN nq
      have fin : Sg wr.heap.size wr w.heap.size (madeL xs) ∧ Rl wr.heap.size wr rv (madeL xs) ∧ Same0 w wr := ⟨⟨⟨sv, mr, hb.sg, sig_foot_lt hb.sg⟩, hb.a⟩, ⟨hb.rf.row, fun k e => hb.rf.lt k (.inr e), hb.a, hlen⟩, from_below hb.k⟩
      exact ⟨w.heap.size, rv, rfl, fin.1.same kd, fin.2.1.same kd, fin.2.2.trans' kd⟩
end Go.Proofs.Ythhcnllabhfejaa
