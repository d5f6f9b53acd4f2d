import Derived.Test.YtbjfpfnfbgncnaaGreatDoorM40
import Derived.Test.YtbjfpfnfbgncnaaGreatDoorM11
/- The walks of Same (two lists of numbers) and Made (a signature of some symbols, the program's and the document's). -/
namespace Go.Proofs.YtbjfpfnfbgncnaaGreatDoor
set_option maxRecDepth 100000
set_option linter.unusedVariables false
open Go.RowKit
attribute [local go_sem ↓] Go.wp_at_zero Go.wp_at_succ
def sameB (xs ys : List Int) : Bool := decide (xs = ys)
theorem same_len {xs ys : List Int} (h : xs.length ≠ ys.length) : sameB xs ys = false := by
  simp [sameB]; intro e; exact h (by rw [e])
theorem take_eq_succ {xs ys : List Int} {k : Nat} (h : xs.take k = ys.take k) (hx : k < xs.length) (hy : k < ys.length) (he : xs[k] = ys[k]) : xs.take (k + 1) = ys.take (k + 1) := by
  rw [List.take_add_one, List.take_add_one, h, List.getElem?_eq_getElem hx, List.getElem?_eq_getElem hy, he]
set_option maxHeartbeats 2000000 in
theorem same_any {w : World} {ao bo : Option Addr} {acap bcap : Nat} {xs ys : List Int} (hx : IntsAt w ao xs) (hy : IntsAt w bo ys) (hm : xs.length ≤ maxLen) :
    Calls Tryz.prog 16 #[.slice ao xs.length acap, .slice bo ys.length bcap] w fun e w' => e = .returned (.bool (sameB xs ys)) ∧ Same0 w w' := by
  unfold maxLen at hm
  by_cases hl : xs.length = ys.length
  · have hl' : (xs.length : Int) = (ys.length : Int) := by omega
    go_enter Tryz.func16, Tryz.ntmps16
    go_wp2
    go_loopw [5] (fun i wr => ∃ k : Nat, k ≤ xs.length ∧ i = .int .i64 (k : Int) ∧ Hid (xs.take k = ys.take k) ∧ Same0 w wr) (fun i _ => xs.length - (intOf i).toNat)
    case atStart => exact ⟨0, Nat.zero_le _, rfl, by simp [Hid], Kept.refl _ _⟩
    case round =>
      obtain ⟨k, hk, rfl, ht, hs⟩ := hrel
      by_cases hlt : k < xs.length
      · have hlt' : k < ys.length := by omega
        obtain ⟨ab, ao', rfl, hab, hac⟩ := (hx.same hs).get hlt
        obtain ⟨bb, bo', rfl, hbb, hbc⟩ := (hy.same hs).get hlt'
        have i1 : (0 : Int) ≤ (k : Int) := by omega
        have i2 : (k : Int) < (xs.length : Int) := by omega
        have i3 : (k : Int) < (ys.length : Int) := by omega
        have d1 : wr.drew.cell? ⟨ab, ao' + k, none⟩ = some (.int .i64 xs[k]) := hac
        have d2 : wr.drew.cell? ⟨bb, bo' + k, none⟩ = some (.int .i64 ys[k]) := hbc
        by_cases he : xs[k] = ys[k]
        · have hn : Hid (xs.take (k + 1) = ys.take (k + 1)) := take_eq_succ ht.out hlt hlt' he
          have he' : (xs[k] == ys[k]) = true := by simpa using he
          go_wp2
          go_quiet (fail)
          go_wp2
          refine ⟨⟨k + 1, by omega, by go_num, hn, hs.drewN _⟩, by simp [intOf]; omega⟩
        · have H : Hid (sameB xs ys = false) := by
            show _ = _
            simp only [sameB, decide_eq_false_iff_not]
            intro e; subst e; exact he rfl
          have he' : (xs[k] == ys[k]) = false := by simpa using he
          go_wp2
          go_quiet (fail)
          go_wp2
          go_ret
          exact ⟨by rw [H.out]; rfl, hs.drewN _⟩
      · have H : Hid (sameB xs ys = true) := by
          have := ht.out
          rw [List.take_of_length_le (by omega), List.take_of_length_le (by omega)] at this
          show _ = _
          simpa [sameB] using this
        go_wp2
        go_ret
        exact ⟨by rw [H.out]; rfl, hs⟩
  · have hl' : ¬ (xs.length : Int) = (ys.length : Int) := by omega
    have H : Hid (sameB xs ys = false) := same_len hl
    go_enter Tryz.func16, Tryz.ntmps16
    go_wp2
    go_ret
    exact ⟨by rw [H.out]; rfl, Kept.refl _ _⟩
/-- The program's signature and the document's, of the same symbols, apart. -/
structure Both (n0 : Nat) (w0 w : World) (b rb : Nat) (L : List Sym) (sv : Value) (mr : Option Nat) (rv : Value) : Prop where
  sg : SigAt w b L sv mr
  rf : RefAt w rb L rv
  f : ∀ k, Foot b sv mr k → n0 ≤ k
  g : ∀ k, RFoot rb rv k → n0 ≤ k
  d : ∀ k, Foot b sv mr k → ¬ RFoot rb rv k
  k : Kept (From n0) w0 w
  a : Ars L
theorem Both.start (w : World) : Both w.heap.size w ((w.alloc (.cells #[.slice none 0 0, .map none] 134)).alloc (.cells #[.slice none 0 0] 91)) w.heap.size (w.heap.size + 1) [] (.slice none 0 0) none (.slice none 0 0) := by
  have k1 : Kept (fun _ => False) (w.alloc (.cells #[.slice none 0 0, .map none] 134)) ((w.alloc (.cells #[.slice none 0 0, .map none] 134)).alloc (.cells #[.slice none 0 0] 91)) := (Kept.refl _ _).alloc _
  have e1 : (w.alloc (.cells #[.slice none 0 0, .map none] 134)).heap.size = w.heap.size + 1 := by simp
  refine ⟨(sig_new w).kept k1 (fun _ _ f => f), ⟨?_, World.ownsRow_nil _ _ _ _, by simp [Value.ownBlock]⟩, ?_, ?_, ?_, ((Kept.refl _ w).alloc _).alloc _, fun x hx => by simp at hx⟩
  · rw [← e1]; exact heap_alloc_new _ _
  · rintro k (e | e | e)
    · omega
    · simp [Value.ownBlock] at e
    · simp at e
  · rintro k (e | e)
    · omega
    · simp [Value.ownBlock] at e
  · rintro k (e | e | e) (e' | e')
    · omega
    · simp [Value.ownBlock] at e'
    · simp [Value.ownBlock] at e
    · simp [Value.ownBlock] at e
    · simp at e
    · simp at e
theorem addL_ars {L : List Sym} (h : Ars L) (x : Sym) : Ars (addL L x) := by
  unfold addL
  split
  · rename_i hz
    intro y hy
    rcases List.mem_append.1 hy with hy | hy
    · exact h y hy
    · simp at hy; subst hy; exact add_ar hz
  · exact h
theorem Both.next {n0 : Nat} {w0 w w1 w2 : World} {b rb : Nat} {L : List Sym} {sv : Value} {mr : Option Nat} {rv : Value} (h : Both n0 w0 w b rb L sv mr rv) (x : Sym) (hn : n0 ≤ w.heap.size) {sv1 : Value} {mr1 : Option Nat}
    (h1 : SigAt w1 b (addL L x) sv1 mr1) (h2 : Kept (Foot b sv mr) w w1) (h3 : ∀ k, Foot b sv1 mr1 k → Foot b sv mr k ∨ w.heap.size ≤ k) (hr : RMoved w1 rb rv (addL L x) w2) : ∃ rv2, Both n0 w0 w2 b rb (addL L x) sv1 mr1 rv2 := by
  obtain ⟨rv2, r1, r2, r3⟩ := hr
  have hrl := h.rf.lt
  have dd : ∀ k, Foot b sv1 mr1 k → ¬ RFoot rb rv k := fun k hk hk' => by
    rcases h3 k hk with e | e
    · exact h.d k e hk'
    · have := hrl k hk'; omega
  have z1 := h2.size
  refine ⟨rv2, h1.kept r2 (fun k e => dd k e), r1, ?_, ?_, ?_, ?_, addL_ars h.a x⟩
  · intro k hk
    rcases h3 k hk with e | e
    · exact h.f k e
    · omega
  · intro k hk
    rcases r3 k hk with e | e
    · exact h.g k e
    · omega
  · intro k hk hk'
    rcases r3 k hk' with e | e
    · exact dd k hk e
    · have := sig_foot_lt h1 k hk; omega
  · exact (h.k.trans h2 (fun i _ e => h.f i e)).trans r2 (fun i _ e => h.g i e)
def madeL (xs : List Sym) : List Sym := xs.foldl addL []
theorem madeL_snoc {xs : List Sym} {k : Nat} (h : k < xs.length) : madeL (xs.take (k + 1)) = addL (madeL (xs.take k)) xs[k] := by
  rw [List.take_add_one, List.getElem?_eq_getElem h]
  unfold madeL
  rw [List.foldl_append]
  rfl
theorem from_below {w w' : World} (h : Kept (From w.heap.size) w w') : Same0 w w' := ⟨h.os, h.tape, h.output, h.size, fun k hk _ => h.block k hk (fun e => by omega)⟩
set_option maxHeartbeats 2000000 in
theorem made_any (ao : Option Addr) (len cap : Nat) (xs : List Sym) (w : World) (hx : SymsAt w ao len xs) (hm : len ≤ maxLen) :
    Calls Tryz.prog 12 #[.slice ao len cap] w fun e w' => ∃ b rv, e = .returned (.tuple #[.pointer (some ⟨b, 0, none⟩), rv]) ∧ Sg w'.heap.size w' b (madeL xs) ∧ Rl w'.heap.size w' rv (madeL xs) ∧ Same0 w w' := by
  unfold maxLen at hm
  go_enter Tryz.func12, Tryz.ntmps12
  go_wp2_with (first | (go_at_call 38; refine (new_any _).mono ?_; rintro e w' ⟨rfl, rfl⟩))
  go_loopw [6] (fun i wr => ∃ (k : Nat) (sv : Value) (mr : Option Nat) (rv : Value), k ≤ len ∧ i = .int .i64 (k : Int) ∧ Both w.heap.size w wr w.heap.size (w.heap.size + 1) (madeL (xs.take k)) sv mr rv) (fun i _ => len - (intOf i).toNat)
  case atStart => exact ⟨0, _, _, _, Nat.zero_le _, rfl, Both.start w⟩
  case round =>
    obtain ⟨k, sv, mr, rv, hk, rfl, hb⟩ := hrel
    have hlen := hb.sg.len
    by_cases hlt : k < len
    · obtain ⟨xl, xc, xw⟩ := hx.kept (from_below hb.k).below
      obtain ⟨xb, off, rfl, hxb, hxc⟩ := xc.resolve_left (by omega)
      have hkx : k < xs.length := by omega
      obtain ⟨x0, x1, x2⟩ := hxc k hkx
      have xsz := (xw xs[k] (List.getElem_mem hkx)).1
      have i1 : (0 : Int) ≤ (k : Int) := by omega
      have i2 : (k : Int) < (len : Int) := by omega
      have E1 : Hid (madeL (xs.take (k + 1)) = addL (madeL (xs.take k)) xs[k]) := madeL_snoc hkx
      have hn0 := hb.k.size
      have hxs := hx
      clear hxc xw xc xl
      generalize madeL (xs.take k) = L at *
      go_wp2_with fail
      refine (add_any hb.sg xs[k] xsz).mono ?_
      rintro e w1 ⟨rfl, sv1, mr1, h1, h2, h3⟩
      have hr1 : RefAt w1 (w.heap.size + 1) L rv := hb.rf.kept h2 (fun k hk' e => hb.d k e hk')
      have k1 : Kept (From w.heap.size) w w1 := hb.k.trans h2 (fun i _ e => hb.f i e)
      obtain ⟨y0, y1, y2⟩ : w1.cell? ⟨xb, off + k * 3, none⟩ = some (.string xs[k].name) ∧ w1.cell? ⟨xb, off + k * 3 + 1, none⟩ = some (.int .i64 xs[k].ar) ∧ w1.cell? ⟨xb, off + k * 3 + 2, none⟩ = some (.bool xs[k].df) := by
        obtain ⟨_, yc, _⟩ := hxs.kept (from_below k1).below
        obtain ⟨_, _, e, _, hyc⟩ := yc.resolve_left (by omega)
        simp only [Option.some.injEq, Addr.mk.injEq, and_true] at e
        rw [e.1, e.2]
        exact hyc k hkx
      clear x0 x1 x2
      go_wp2_with fail
      refine (radd_any hr1 hlen xs[k] xsz).mono ?_
      rintro e w2 ⟨rfl, hr⟩
      obtain ⟨rv2, hb2⟩ := hb.next xs[k] hn0 h1 h2 h3 hr
      go_wp2
      refine ⟨⟨k + 1, sv1, mr1, rv2, by omega, by go_num, ?_⟩, by simp [intOf]; omega⟩
      rw [E1.out]; exact hb2
    · have hxl := hx.1
      have E1 : xs.take k = xs := List.take_of_length_le (by omega)
      rw [E1] at hb hlen
      have r0 := hb.rf.c0
      clear E1
      go_wp2
      go_quiet (fail)
      go_wp2
      go_ret2
      have kd : Same0 wr (wr.drewN nq) := (Kept.refl _ _).drewN nq
      have fin : Sg wr.heap.size wr w.heap.size (madeL xs) ∧ Rl wr.heap.size wr rv (madeL xs) ∧ Same0 w wr := ⟨⟨⟨sv, mr, hb.sg, sig_foot_lt hb.sg⟩, hb.a⟩, ⟨hb.rf.row, fun k e => hb.rf.lt k (.inr e), hb.a, hlen⟩, from_below hb.k⟩
      exact ⟨w.heap.size, rv, rfl, fin.1.same kd, fin.2.1.same kd, fin.2.2.trans' kd⟩
end Go.Proofs.YtbjfpfnfbgncnaaGreatDoor
/- The walk of the head of layer 2's statements: calls whose answers the document fixes. -/
namespace Go.Proofs.YtbjfpfnfbgncnaaGreatDoor
set_option maxRecDepth 100000
set_option linter.unusedVariables false
open Go.RowKit
attribute [local go_sem ↓] Go.wp_at_zero Go.wp_at_succ
theorem ints_new (w : World) (xs : List Int) (T : TypeId) {o : Obj} (ho : o = .cells (iv xs).toArray T (0, 0)) : IntsAt (w.alloc o) (some ⟨w.heap.size, 0, none⟩) xs := by
  subst ho
  refine .inr ⟨_, _, rfl, by simp, fun i hi => ?_⟩
  rw [Nat.zero_add, cellAt (heap_alloc_new w _)]
  simpa using iv_get hi
theorem Row.ints {base : Nat} {w : World} {v : Value} {xs : List Int} (h : Row base w v xs) : ∃ ao cap, v = .slice ao xs.length cap ∧ IntsAt w ao xs ∧ xs.length ≤ cap ∧ (∀ a, ao = some a → base ≤ a.block ∧ a.block < w.heap.size) := by
  rcases h.2 with ⟨rfl, h0⟩ | ⟨g, cap, cur, rfl, hb, hg, h1, h2, h3, h4⟩
  · have : xs = [] := List.eq_nil_of_length_eq_zero h0
    subst this
    exact ⟨none, 0, rfl, .inl rfl, Nat.le_refl _, fun a e => by cases e⟩
  · refine ⟨_, cap, rfl, .inr ⟨g, 0, rfl, lt_of_at hg, fun i hi => ?_⟩, h1, fun a e => by cases e; exact ⟨hb, lt_of_at hg⟩⟩
    rw [Nat.zero_add, h.cellAt i (by omega)]
    exact iv_get hi
theorem Same0.new {w w' : World} {o : Obj} (h : Same0 (w.alloc o) w') : Same0 w w' := Same0.trans' ((Kept.refl _ w).alloc o) h
abbrev zS : Sym := ⟨⟨#[122]⟩, 0, false⟩
theorem nm_z : nameB ⟨#[122]⟩ = true := by decide +kernel
theorem madeL_awake : madeL [zS, aS, aAdd] = [zS, aS, aAdd] := by
  simp [madeL, addL, addErr, nm_z, nm_s, nm_add, findI]
theorem syms_awake (w : World) : SymsAt (w.alloc (.cells #[.string ⟨#[122]⟩, .int .i64 0, .bool false, .string ⟨#[115]⟩, .int .i64 1, .bool false, .string ⟨#[97, 100, 100]⟩, .int .i64 2, .bool true] 95)) (some ⟨w.heap.size, 0, none⟩) 3 [zS, aS, aAdd] := by
  refine ⟨rfl, .inr ⟨_, _, rfl, by simp, fun i hi => ?_⟩, ?_⟩
  · have hi' : i < 3 := by simpa using hi
    rw [cellAt (heap_alloc_new w _), cellAt (heap_alloc_new w _), cellAt (heap_alloc_new w _)]
    match i, hi' with
    | 0, _ => exact ⟨rfl, rfl, rfl⟩
    | 1, _ => exact ⟨rfl, rfl, rfl⟩
    | 2, _ => exact ⟨rfl, rfl, rfl⟩
  · intro x hx
    simp at hx
    rcases hx with rfl | rfl | rfl <;> exact ⟨by decide +kernel, by decide +kernel⟩
abbrev L3 : List Sym := [zS, aS, aAdd]
theorem aw_end : endA L3 [2, 1, 0, -1] 1 = 3 ∧ placeE L3 [2, 1, 0, -1] 1 = 0 := by decide +kernel
theorem aw_put : putA L3 [2, 1, 0, -1] 1 [-5] = [2, -5, -1] ∧ putE L3 [2, 1, 0, -1] 1 [-5] = 0 := by decide +kernel
theorem aw_lead : leadA L3 [2, 1, 0, -1] [0, 0] = 2 ∧ leadE L3 [2, 1, 0, -1] [0, 0] = 0 := by decide +kernel
theorem aw_check : checkE L3 [2, 1, 0] = 23 := by decide +kernel
theorem aw2_same {w : World} {T : TypeId} {ao : Option Addr} {cap : Nat} (h : IntsAt w ao [2, -5, -1]) : Calls Tryz.prog 16 #[.slice ao 3 cap, .slice (some ⟨w.heap.size, 0, none⟩) 3 3] (w.alloc (.cells #[.int .i64 2, .int .i64 (-5), .int .i64 (-1)] T)) fun e w' => e = .returned (.bool true) ∧ Same0 (w.alloc (.cells #[.int .i64 2, .int .i64 (-5), .int .i64 (-1)] T)) w' := by
  have k : Same0 w (w.alloc (.cells #[.int .i64 2, .int .i64 (-5), .int .i64 (-1)] T)) := (Kept.refl _ w).alloc _
  have c := same_any (acap := cap) (bcap := 3) (h.same k) (ints_new w [2, -5, -1] T rfl) (by decide)
  exact c
theorem aw2_check {n b : Nat} {w : World} {T : TypeId} (h : Sg n w b L3) : Calls Tryz.prog 31 #[.pointer (some ⟨b, 0, none⟩), .slice (some ⟨w.heap.size, 0, none⟩) 3 3] (w.alloc (.cells #[.int .i64 2, .int .i64 1, .int .i64 0] T)) fun e w' => e = .returned (.int .i64 23) ∧ Same0 (w.alloc (.cells #[.int .i64 2, .int .i64 1, .int .i64 0] T)) w' := by
  have c := check_any (cap := 3) (h.same ((Kept.refl _ w).alloc _)) (ints_new w [2, 1, 0] T rfl) (by decide)
  rw [aw_check] at c
  exact c
end Go.Proofs.YtbjfpfnfbgncnaaGreatDoor
