import Derived.Test.YthamjjhioafkjaaGreatGCodeViews11
import Derived.Test.YthamjjhioafkjaaGreatGCodeViews03
import Derived.Deep.RegionHeld3
import Derived.Test.YthamjjhioafkjaaGreatGCodeViews04
import Derived.Test.YthamjjhioafkjaaGreatGCodeViews07
namespace Go.Proofs.YthamjjhioafkjaaGreat
set_option maxRecDepth 100000
set_option linter.unusedVariables false
open Go.RowKit
attribute [local go_sem ↓] Go.wp_at_zero Go.wp_at_succ
theorem Arg.same {w w' : World} {ao : Option Addr} {xs : List Int} {cap : Nat} (h : Arg w ao xs cap) (hk : Same0 w w') : Arg w' ao xs cap := ⟨h.at'.same hk,h.cap', h.nil,h.size⟩
def RuAt (w : World) (b off : Nat) (x : Ru) : Prop :=
  ∃ ao ac bo bc, w.cell? ⟨b, off, none⟩ = some (.slice ao x.1.length ac) ∧ w.cell? ⟨b, off + 1, none⟩ = some (.slice bo x.2.length bc) ∧ Arg w ao x.1 ac ∧ Arg w bo x.2 bc
def RsAt (w : World) (lo : Option Addr) (l : List Ru) : Prop :=
  l = [] ∨ ∃ b off, lo = some ⟨b, off, none⟩ ∧ b < w.heap.size ∧ ∀ i (h : i < l.length), RuAt w b (off + i * 2) l[i]
theorem RuAt.same {w w' : World} {b off : Nat} {x : Ru} (h : RuAt w b off x) (hb : b < w.heap.size) (hk : Same0 w w') : RuAt w' b off x := by
  obtain ⟨ao, ac, bo, bc, h1, h2, h3, h4⟩ := h
  exact ⟨ao, ac, bo, bc, (hk.cell (p := ⟨b, off, none⟩) hb (fun f => f)).trans h1, (hk.cell (p := ⟨b, off + 1, none⟩) hb (fun f => f)).trans h2, h3.same hk, h4.same hk⟩
theorem RsAt.same {w w' : World} {lo : Option Addr} {l : List Ru} (h : RsAt w lo l) (hk : Same0 w w') : RsAt w' lo l := by
  refine h.imp id ?_
  rintro ⟨b, off, rfl, hb, hc⟩
  exact ⟨b, off, rfl, Nat.lt_of_lt_of_le hb hk.size, fun i hi => (hc i hi).same hb hk⟩
theorem RsAt.get {w : World} {lo : Option Addr} {l : List Ru} (h : RsAt w lo l) {i : Nat} (hi : i < l.length) : ∃ b off,lo = some ⟨b,off,none⟩ ∧ b < w.heap.size ∧ RuAt w b (off + i * 2) l[i] := by
  rcases h with rfl | ⟨b, off, e, hb, hc⟩
  · simp at hi
  · exact ⟨b, off, e, hb, hc i hi⟩
structure StR (w : World) (b bs : Nat) (ro : Option Addr) (rc : Nat) (L : List Sym) (R : List Ru) : Prop where
  blk : w.heap[b]? = some (.cells #[.pointer (some ⟨bs, 0, none⟩), .slice ro R.length rc] 165 (0, 0))
  sig : Sg w.heap.size w bs L
  rs : RsAt w ro R
  nil : ro = none → rc = 0
  le : R.length ≤ 100
  ok : ∀ x ∈ R, checkE L x.1 = 0
theorem StR.same {w w' : World} {b bs : Nat} {ro : Option Addr} {rc : Nat} {L : List Sym} {R : List Ru} (h : StR w b bs ro rc L R) (hk : Same0 w w') : StR w' b bs ro rc L R :=
  ⟨hk.at0 h.blk, sg_up (h.sig.same hk) hk.size, h.rs.same hk, h.nil, h.le, h.ok⟩
theorem StR.cells {w : World} {b bs : Nat} {ro : Option Addr} {rc : Nat} {L : List Sym} {R : List Ru} (h : StR w b bs ro rc L R) : w.cell? ⟨b,0,none⟩ = some (.pointer (some ⟨bs,0,none⟩)) ∧ w.cell? ⟨b,1,none⟩ = some (.slice ro R.length rc) := by
  have h0 := cellAt h.blk 0
  have h1 := cellAt h.blk 1
  simp only [List.getElem?_toArray, List.getElem?_cons_zero, List.getElem?_cons_succ] at h0 h1
  exact ⟨h0, h1⟩
theorem cell_al {w : World} {p : Addr} {v : Value} (h : w.cell? p = some v) (o : Obj) : (w.alloc o).cell? p = some v := by
  rw [World.cell?_alloc_some _ _ _ (by rw [h]; rfl), h]
theorem heap_al_al (w : World) (o o' : Obj) : ((w.alloc o).alloc o').heap[w.heap.size + 1]? = some o' := by
  have := heap_alloc_new (w.alloc o) o'
  rwa [World.size_alloc] at this
set_option maxHeartbeats 1000000 in
theorem rule_any {w : World} {b lb off len lc n : Nat} {ao bo : Option Addr} {al ac bl bc : Nat} (h0 : w.cell? ⟨lb,off + n * 2,none⟩ = some (.slice ao al ac)) (h1 : w.cell? ⟨lb,off + n * 2 + 1,none⟩ = some (.slice bo bl bc)) (hn : n < len) :
    Calls Tryz.prog 161 #[.agg #[.pointer (some ⟨b,0,none⟩),.slice (some ⟨lb,off,none⟩) len lc,.int .i64 (n : Int)]] w fun e w' => e = .returned (.agg #[.slice ao al ac,.slice bo bl bc]) ∧ Same0 w w' := by
  have i1 : (0 : Int) ≤ (n : Int) := by omega
  have i2 : (n : Int) < (len : Int) := by omega
  have H0 := fun o o' => cell_al (cell_al h0 o) o'
  have H1 := fun o o' => cell_al (cell_al h1 o) o'
  clear h0 h1
  go_enter Tryz.func161, Tryz.ntmps161
  go_wp2
  exact bodyPost_ret (v := .agg #[.slice ao al ac, .slice bo bl bc]) (by simp [results, Tryz.results161, go_sem]) rfl ⟨rfl, ((Kept.refl _ w).alloc _).alloc _⟩
set_option maxHeartbeats 1000000 in
theorem fault_any (w : World) (b : Nat) (lo : Option Addr) (ll lc : Nat) (why : Value) (hw : why = .nilIface ∨ ∃ t v,why = .iface t v) (n : Nat) (c : Int) :
    Calls Tryz.prog 162 #[.agg #[.pointer (some ⟨b,0,none⟩),.slice lo ll lc,.int .i64 (n : Int)],.int .i64 c,why] w fun e w' => ∃ k,e = .returned (.iface 106 (.pointer (some ⟨k,0,none⟩))) ∧ w'.heap[k]? = some (.cells #[.int .i64 c,.int .i64 (n : Int),why] 108 (0,0)) ∧ Same0 w w' := by
  rcases hw with rfl | ⟨t, v, rfl⟩
  · go_enter Tryz.func162, Tryz.ntmps162
    go_wp2
    go_ret
    exact ⟨_, rfl, heap_al_al _ _ _, ((Kept.refl _ w).alloc _).alloc _⟩
  · go_enter Tryz.func162, Tryz.ntmps162
    go_wp2
    go_ret
    exact ⟨_, rfl, heap_al_al _ _ _, ((Kept.refl _ w).alloc _).alloc _⟩
set_option maxHeartbeats 1000000 in
theorem unless_any (w : World) (b : Nat) (lo : Option Addr) (ll lc n : Nat) (c : Int) (h : Bool) :
    Calls Tryz.prog 160 #[.agg #[.pointer (some ⟨b,0,none⟩),.slice lo ll lc,.int .i64 (n : Int)],.bool h,.int .i64 c] w fun e w' => ∃ v,e = .returned v ∧ FltAt w' (if h = true then [(0,-1)] else [(c,(n : Int))]) v ∧ Same0 w w' := by
  cases h
  · have cF := fault_any
    go_enter Tryz.func160, Tryz.ntmps160
    go_wp2_with (first | (go_at_call 162; refine (cF _ _ _ _ _ _ (.inl rfl) _ _).mono ?_; rintro e w1 ⟨k, rfl, hk1, hk2⟩))
    go_ret
    exact ⟨_, rfl, .inr ⟨by omega, k, _, rfl, hk1, rfl⟩, Same0.trans' ((Kept.refl _ w).alloc _) hk2⟩
  · go_enter Tryz.func160, Tryz.ntmps160
    go_wp2
    go_ret
    exact ⟨_, rfl, .inl ⟨rfl, rfl, rfl⟩, (Kept.refl _ w).alloc _⟩
theorem sg_at_no {n b : Nat} {w : World} {L : List Sym} (h : Sg n w b L) {x : Int} (hx : x < 0 ∨ (L.length : Int) ≤ x) : Calls Tryz.prog 91 #[.pointer (some ⟨b,0,none⟩),.int .i64 x] w fun e w' => e = .returned (.tuple #[.agg #[.string ⟨#[]⟩,.int .i64 0,.bool false],.int .i64 14]) ∧ Same0 w w' := by
  obtain ⟨⟨sv, mr, h1, _⟩, ha⟩ := h
  exact at_no h1 x hx
theorem sg_at_yes {n b : Nat} {w : World} {L : List Sym} (h : Sg n w b L) {i : Nat} (hi : i < L.length) : Calls Tryz.prog 91 #[.pointer (some ⟨b,0,none⟩),.int .i64 (i : Int)] w fun e w' => e = .returned (.tuple #[.agg #[.string L[i].name,.int .i64 L[i].ar,.bool L[i].df],.int .i64 0]) ∧ Same0 w w' := by
  obtain ⟨⟨sv, mr, h1, _⟩, ha⟩ := h
  exact at_yes h1 i hi
set_option maxHeartbeats 1000000 in
theorem isDefined_any {w : World} {b bs : Nat} {ro : Option Addr} {rc : Nat} {L : List Sym} {R : List Ru} (h : StR w b bs ro rc L R) (lo : Option Addr) (ll lc n : Nat) (x : Int) :
    Calls Tryz.prog 163 #[.agg #[.pointer (some ⟨b,0,none⟩),.slice lo ll lc,.int .i64 (n : Int)],.int .i64 x] w fun e w' => e = .returned (.bool (defB L x)) ∧ Same0 w w' := by
  have K : ∀ o, Same0 w (w.alloc o) := fun o => (Kept.refl _ w).alloc o
  have C := fun o => (h.same (K o)).cells.1
  by_cases hx : x < 0 ∨ (L.length : Int) ≤ x
  · have H1 : Hid (defB L x = false) := defB_no hx
    have c := fun o => sg_at_no (h.same (K o)).sig hx
    clear K h
    go_enter Tryz.func163, Tryz.ntmps163
    go_wp2_with (first | (go_at_call 91; refine (c _).mono ?_; rintro e w' ⟨rfl, hk⟩))
    go_ret
    exact ⟨by rw [H1.out]; rfl, Kept.alloc (Same0.trans' ((Kept.refl _ w).alloc _) hk) _⟩
  · obtain ⟨i, rfl⟩ : ∃ i : Nat, x = (i : Int) := ⟨x.toNat, by omega⟩
    have hi : i < L.length := by omega
    have H1 : Hid (defB L (i : Int) = L[i].df) := defB_at hi
    have c := fun o => sg_at_yes (h.same (K o)).sig hi
    clear K h
    go_enter Tryz.func163, Tryz.ntmps163
    go_wp2_with (first | (go_at_call 91; refine (c _).mono ?_; rintro e w' ⟨rfl, hk⟩))
    go_ret
    exact ⟨by rw [H1.out]; rfl, Kept.alloc (Same0.trans' ((Kept.refl _ w).alloc _) hk) _⟩
end Go.Proofs.YthamjjhioafkjaaGreat
namespace Go.Proofs.YthamjjhioafkjaaGreat
set_option maxRecDepth 100000
set_option linter.unusedVariables false
open Go.RowKit
attribute [local go_sem ↓] Go.wp_at_zero Go.wp_at_succ
theorem field_left (a d : Option Addr) (b c e f : Nat) (w : World) : (Instr.field 118 (.agg #[.slice a b c,.slice d e f]) 0).run Tryz.prog w = .ok (.slice a b c) w := by kernel_rfl
theorem field_right (a d : Option Addr) (b c e f : Nat) (w : World) : (Instr.field 118 (.agg #[.slice a b c,.slice d e f]) 1).run Tryz.prog w = .ok (.slice d e f) w := by kernel_rfl
def askW (L : List Sym) (R l : List Ru) (j n : Nat) : List (Int × Int) := if ckB L R l j n = true then [(0, -1)] else wrongL L R l j n
structure Cnd (w : World) (b bs : Nat) (ro : Option Addr) (rc : Nat) (L : List Sym) (R : List Ru) (lo : Option Addr) (l : List Ru) (n : Nat) : Prop where
  st : StR w b bs ro rc L R
  ls : RsAt w lo l
  ll : l.length ≤ 140737488355328
  hn : n < l.length
def BoxAt (w : World) (k b : Nat) (lo : Option Addr) (ll lc n : Nat) : Prop := w.cell? ⟨k, 0, none⟩ = some (.pointer (some ⟨b, 0, none⟩)) ∧ w.cell? ⟨k, 1, none⟩ = some (.slice lo ll lc) ∧ w.cell? ⟨k, 2, none⟩ = some (.int .i64 (n : Int))
theorem box_new (w : World) (b : Nat) (lo : Option Addr) (ll lc n : Nat) (t : TypeId) : BoxAt (w.alloc (.cells #[.pointer (some ⟨b,0,none⟩),.slice lo ll lc,.int .i64 (n : Int)] t)) w.heap.size b lo ll lc n := by
  have h := heap_alloc_new w (.cells #[.pointer (some ⟨b, 0, none⟩), .slice lo ll lc, .int .i64 (n : Int)] t)
  exact ⟨cellAt h 0, cellAt h 1, cellAt h 2⟩
theorem BoxAt.same {w w' : World} {k b : Nat} {lo : Option Addr} {ll lc n : Nat} (h : BoxAt w k b lo ll lc n) (hb : k < w.heap.size) (hk : Same0 w w') : BoxAt w' k b lo ll lc n :=
  ⟨(hk.cell (p := ⟨k, 0, none⟩) hb (fun f => f)).trans h.1, (hk.cell (p := ⟨k, 1, none⟩) hb (fun f => f)).trans h.2.1, (hk.cell (p := ⟨k, 2, none⟩) hb (fun f => f)).trans h.2.2⟩
theorem iwrap {z : Int} (h1 : -9223372036854775808 ≤ z) (h2 : z < 9223372036854775808) : IntKind.i64.wrap z = z := by
  simp [IntKind.wrap, IntKind.bits, IntKind.signed]; omega
set_option maxHeartbeats 2000000 in
theorem many_any {w : World} {b bs : Nat} {ro : Option Addr} {rc : Nat} {L : List Sym} {R : List Ru} {lo : Option Addr} {l : List Ru} {n lc : Nat} (h : Cnd w b bs ro rc L R lo l n) :
    Calls Tryz.prog 138 #[.agg #[.pointer (some ⟨b,0,none⟩),.slice lo l.length lc,.int .i64 (n : Int)]] w fun e w' => ∃ v,e = .returned v ∧ FltAt w' (askW L R l 0 n) v ∧ Same0 w w' := by
  have W1 : Same0 w (w.alloc (.cells #[.pointer (some ⟨b, 0, none⟩), .slice lo l.length lc, .int .i64 (n : Int)] 202)) := (Kept.refl _ w).alloc _
  have B1 := box_new w b lo l.length lc n 202
  have C1 := (h.st.same W1).cells
  have hz : w.heap.size < (w.alloc (.cells #[.pointer (some ⟨b, 0, none⟩), .slice lo l.length lc, .int .i64 (n : Int)] 202)).heap.size := by simp
  have HS : Hid (∀ ww, Same0 (w.alloc (.cells #[.pointer (some ⟨b, 0, none⟩), .slice lo l.length lc, .int .i64 (n : Int)] 202)) ww → (ww.cell? ⟨b, 0, none⟩ = some (.pointer (some ⟨bs, 0, none⟩)) ∧ ww.cell? ⟨b, 1, none⟩ = some (.slice ro R.length rc)) ∧ ww.cell? ⟨w.heap.size, 0, none⟩ = some (.pointer (some ⟨b, 0, none⟩)) ∧ ww.cell? ⟨w.heap.size, 1, none⟩ = some (.slice lo l.length lc) ∧ ww.cell? ⟨w.heap.size, 2, none⟩ = some (.int .i64 (n : Int))) := fun ww hk => ⟨((h.st.same W1).same hk).cells, B1.same hz hk⟩
  have hR := h.st.le
  have hl := h.ll
  have CC0 := HS.out _ (Kept.refl _ _)
  have E : Hid (∀ q : Bool, q = decide (R.length + l.length ≤ 100) → (if q = true then [(0, -1)] else [(70, (n : Int))]) = askW L R l 0 n) := by
    intro q hq
    subst hq
    simp only [askW, ckB, askB, wrongL]
    split <;> simp_all
  have Q : Hid (decide (IntKind.i64.wrap ((R.length : Int) + (l.length : Int)) ≤ 100) = decide (R.length + l.length ≤ 100)) := by
    show _ = _
    rw [iwrap (by omega) (by omega)]
    congr 1
    exact propext ⟨fun h => by omega, fun h => by omega⟩
  clear B1 C1 hz
  go_enter Tryz.func138, Tryz.ntmps138
  go_wp2
  go_region_held3 (fun w' => (w'.cell? ⟨b, 0, none⟩ = some (.pointer (some ⟨bs, 0, none⟩)) ∧ w'.cell? ⟨b, 1, none⟩ = some (.slice ro R.length rc)) ∧ w'.cell? ⟨w.heap.size, 0, none⟩ = some (.pointer (some ⟨b, 0, none⟩)) ∧ w'.cell? ⟨w.heap.size, 1, none⟩ = some (.slice lo l.length lc) ∧ w'.cell? ⟨w.heap.size, 2, none⟩ = some (.int .i64 (n : Int))) (first | exact cc1 | exact CC0) (first | (go_at_call 160; refine (unless_any _ _ _ _ _ _ _ _).mono ?_; rintro e w2 ⟨v, rfl, hv, hk2⟩; have cc1 := HS.out _ (Same0.trans' (Kept.drew (Kept.refl _ _)) hk2)))
  go_wp2
  go_ret
  exact ⟨_, rfl, by rw [← E.out _ Q.out]; exact hv, Same0.trans' (Kept.drew W1) hk2⟩
end Go.Proofs.YthamjjhioafkjaaGreat
namespace Go.Proofs.YthamjjhioafkjaaGreat
set_option maxRecDepth 100000
set_option linter.unusedVariables false
open Go.RowKit
attribute [local go_sem ↓] Go.wp_at_zero Go.wp_at_succ
theorem Cnd.opened {w : World} {b bs : Nat} {ro : Option Addr} {rc : Nat} {L : List Sym} {R : List Ru} {lo : Option Addr} {l : List Ru} {n : Nat} (h : Cnd w b bs ro rc L R lo l n) (lc : Nat) :
    ∃ lb off ao ac bo bc x, lo = some ⟨lb, off, none⟩ ∧ x = l.getD n ([], []) ∧ Same0 w (w.alloc (.cells #[.pointer (some ⟨b, 0, none⟩), .slice (some ⟨lb, off, none⟩) l.length lc, .int .i64 (n : Int)] 202)) ∧ (((w.alloc (.cells #[.pointer (some ⟨b, 0, none⟩), .slice (some ⟨lb, off, none⟩) l.length lc, .int .i64 (n : Int)] 202)).cell? ⟨b, 0, none⟩ = some (.pointer (some ⟨bs, 0, none⟩)) ∧ (w.alloc (.cells #[.pointer (some ⟨b, 0, none⟩), .slice (some ⟨lb, off, none⟩) l.length lc, .int .i64 (n : Int)] 202)).cell? ⟨b, 1, none⟩ = some (.slice ro R.length rc)) ∧ ((w.alloc (.cells #[.pointer (some ⟨b, 0, none⟩), .slice (some ⟨lb, off, none⟩) l.length lc, .int .i64 (n : Int)] 202)).cell? ⟨w.heap.size, 0, none⟩ = some (.pointer (some ⟨b, 0, none⟩)) ∧ (w.alloc (.cells #[.pointer (some ⟨b, 0, none⟩), .slice (some ⟨lb, off, none⟩) l.length lc, .int .i64 (n : Int)] 202)).cell? ⟨w.heap.size, 1, none⟩ = some (.slice (some ⟨lb, off, none⟩) l.length lc) ∧ (w.alloc (.cells #[.pointer (some ⟨b, 0, none⟩), .slice (some ⟨lb, off, none⟩) l.length lc, .int .i64 (n : Int)] 202)).cell? ⟨w.heap.size, 2, none⟩ = some (.int .i64 (n : Int))) ∧ (w.alloc (.cells #[.pointer (some ⟨b, 0, none⟩), .slice (some ⟨lb, off, none⟩) l.length lc, .int .i64 (n : Int)] 202)).cell? ⟨lb, off + n * 2, none⟩ = some (.slice ao x.1.length ac) ∧ (w.alloc (.cells #[.pointer (some ⟨b, 0, none⟩), .slice (some ⟨lb, off, none⟩) l.length lc, .int .i64 (n : Int)] 202)).cell? ⟨lb, off + n * 2 + 1, none⟩ = some (.slice bo x.2.length bc)) ∧
      Hid (∀ ww, Same0 (w.alloc (.cells #[.pointer (some ⟨b, 0, none⟩), .slice (some ⟨lb, off, none⟩) l.length lc, .int .i64 (n : Int)] 202)) ww → (ww.cell? ⟨b, 0, none⟩ = some (.pointer (some ⟨bs, 0, none⟩)) ∧ ww.cell? ⟨b, 1, none⟩ = some (.slice ro R.length rc)) ∧ (ww.cell? ⟨w.heap.size, 0, none⟩ = some (.pointer (some ⟨b, 0, none⟩)) ∧ ww.cell? ⟨w.heap.size, 1, none⟩ = some (.slice (some ⟨lb, off, none⟩) l.length lc) ∧ ww.cell? ⟨w.heap.size, 2, none⟩ = some (.int .i64 (n : Int))) ∧ ww.cell? ⟨lb, off + n * 2, none⟩ = some (.slice ao x.1.length ac) ∧ ww.cell? ⟨lb, off + n * 2 + 1, none⟩ = some (.slice bo x.2.length bc)) ∧
      Hid (∀ ww, Same0 (w.alloc (.cells #[.pointer (some ⟨b, 0, none⟩), .slice (some ⟨lb, off, none⟩) l.length lc, .int .i64 (n : Int)] 202)) ww → Arg ww ao x.1 ac ∧ Arg ww bo x.2 bc ∧ StR ww b bs ro rc L R) ∧
      Hid (∀ ww, Same0 (w.alloc (.cells #[.pointer (some ⟨b, 0, none⟩), .slice (some ⟨lb, off, none⟩) l.length lc, .int .i64 (n : Int)] 202)) ww → Calls Tryz.prog 161 #[.agg #[.pointer (some ⟨b, 0, none⟩), .slice (some ⟨lb, off, none⟩) l.length lc, .int .i64 (n : Int)]] ww fun e w' => e = .returned (.agg #[.slice ao x.1.length ac, .slice bo x.2.length bc]) ∧ Same0 (w.alloc (.cells #[.pointer (some ⟨b, 0, none⟩), .slice (some ⟨lb, off, none⟩) l.length lc, .int .i64 (n : Int)] 202)) w') ∧
      Hid (∀ ww q c, Same0 (w.alloc (.cells #[.pointer (some ⟨b, 0, none⟩), .slice (some ⟨lb, off, none⟩) l.length lc, .int .i64 (n : Int)] 202)) ww → Calls Tryz.prog 160 #[.agg #[.pointer (some ⟨b, 0, none⟩), .slice (some ⟨lb, off, none⟩) l.length lc, .int .i64 (n : Int)], .bool q, .int .i64 c] ww fun e w' => ∃ v, e = .returned v ∧ FltAt w' (if q = true then [(0, -1)] else [(c, (n : Int))]) v ∧ Same0 (w.alloc (.cells #[.pointer (some ⟨b, 0, none⟩), .slice (some ⟨lb, off, none⟩) l.length lc, .int .i64 (n : Int)] 202)) w') := by
  obtain ⟨lb, off, rfl, hlb, hr⟩ := h.ls.get h.hn
  obtain ⟨x, hx⟩ : ∃ x, x = l[n]'h.hn := ⟨_, rfl⟩
  rw [← hx] at hr
  obtain ⟨ao, ac, bo, bc, r0, r1, A1, A2⟩ := hr
  have e : x = l.getD n ([], []) := by rw [hx]; simp [List.getD, h.hn]
  have hn := h.hn
  obtain ⟨wb, hwb⟩ : ∃ wb, wb = w.alloc (.cells #[.pointer (some ⟨b, 0, none⟩), .slice (some ⟨lb, off, none⟩) l.length lc, .int .i64 (n : Int)] 202) := ⟨_, rfl⟩
  have W0 : Same0 w wb := hwb ▸ (Kept.refl _ w).alloc _
  have B1 : BoxAt wb w.heap.size b (some ⟨lb, off, none⟩) l.length lc n := hwb ▸ box_new w b _ l.length lc n _
  have hz : w.heap.size < wb.heap.size := by rw [hwb]; simp
  have HS : ∀ ww, Same0 wb ww → (ww.cell? ⟨b, 0, none⟩ = some (.pointer (some ⟨bs, 0, none⟩)) ∧ ww.cell? ⟨b, 1, none⟩ = some (.slice ro R.length rc)) ∧ (ww.cell? ⟨w.heap.size, 0, none⟩ = some (.pointer (some ⟨b, 0, none⟩)) ∧ ww.cell? ⟨w.heap.size, 1, none⟩ = some (.slice (some ⟨lb, off, none⟩) l.length lc) ∧ ww.cell? ⟨w.heap.size, 2, none⟩ = some (.int .i64 (n : Int))) ∧ ww.cell? ⟨lb, off + n * 2, none⟩ = some (.slice ao x.1.length ac) ∧ ww.cell? ⟨lb, off + n * 2 + 1, none⟩ = some (.slice bo x.2.length bc) := fun ww hk => ⟨((h.st.same W0).same hk).cells, B1.same hz hk, ((W0.trans' hk).cell (p := ⟨lb, off + n * 2, none⟩) hlb (fun f => f)).trans r0, ((W0.trans' hk).cell (p := ⟨lb, off + n * 2 + 1, none⟩) hlb (fun f => f)).trans r1⟩
  refine ⟨lb, off, ao, ac, bo, bc, x, rfl, e, ?_⟩
  rw [← hwb]
  refine ⟨W0, HS wb (Kept.refl _ _), HS, fun ww hk => ⟨(A1.same W0).same hk, (A2.same W0).same hk, (h.st.same W0).same hk⟩, fun ww hk => ?_, fun ww q c hk => ?_⟩
  · obtain ⟨_, _, g0, g1⟩ := HS ww hk
    exact (rule_any g0 g1 hn).mono (fun e w' ⟨q1, q2⟩ => ⟨q1, hk.trans' q2⟩)
  · exact (unless_any ww b _ _ _ n c q).mono (fun e w' ⟨v, q1, q2, q3⟩ => ⟨v, q1, q2, hk.trans' q3⟩)
set_option maxHeartbeats 4000000 in
theorem side_any {w : World} {b bs : Nat} {ro : Option Addr} {rc : Nat} {L : List Sym} {R : List Ru} {lo : Option Addr} {l : List Ru} {n lc : Nat} (h : Cnd w b bs ro rc L R lo l n) (hu : Upto L R l 2 n) :
    Calls Tryz.prog 140 #[.agg #[.pointer (some ⟨b,0,none⟩),.slice lo l.length lc,.int .i64 (n : Int)]] w fun e w' => ∃ v,e = .returned v ∧ FltAt w' (askW L R l 2 n) v ∧ Same0 w w' := by
  obtain ⟨lb, off, ao, ac, bo, bc, x, rfl, hx, W0, CC0, HS, HA, CR, CU⟩ := h.opened lc
  have W1 : Same0 (w.alloc (.cells #[.pointer (some ⟨b, 0, none⟩), .slice (some ⟨lb, off, none⟩) l.length lc, .int .i64 (n : Int)] 202)) (w.alloc (.cells #[.pointer (some ⟨b, 0, none⟩), .slice (some ⟨lb, off, none⟩) l.length lc, .int .i64 (n : Int)] 202)).drew := Kept.drew (Kept.refl _ _)
  have f0 := field_left
  have f1 := field_right
  have E : Hid (∀ q : Bool, (q = true ↔ x.1.length ≤ 200 ∧ x.2.length ≤ 200) → (if q = true then [(0, -1)] else [(72, (n : Int))]) = askW L R l 2 n) := by
    intro q hq
    have e1 : q = (decide (x.1.length ≤ 200) && decide (x.2.length ≤ 200)) := by
      rw [← Bool.decide_and]
      cases q <;> simp_all
    subst e1
    simp only [askW, ckB, askB, wrongL, ← hx]
    rfl
  have s1 := ((HA.out _ (Kept.refl _ _)).1).size
  have s2 := ((HA.out _ (Kept.refl _ _)).2.1).size
  clear h hu hx
  go_enter Tryz.func140, Tryz.ntmps140
  go_wp2
  go_region_held3 (fun w' => (w'.cell? ⟨b, 0, none⟩ = some (.pointer (some ⟨bs, 0, none⟩)) ∧ w'.cell? ⟨b, 1, none⟩ = some (.slice ro R.length rc)) ∧ (w'.cell? ⟨w.heap.size, 0, none⟩ = some (.pointer (some ⟨b, 0, none⟩)) ∧ w'.cell? ⟨w.heap.size, 1, none⟩ = some (.slice (some ⟨lb, off, none⟩) l.length lc) ∧ w'.cell? ⟨w.heap.size, 2, none⟩ = some (.int .i64 (n : Int))) ∧ w'.cell? ⟨lb, off + n * 2, none⟩ = some (.slice ao x.1.length ac) ∧ w'.cell? ⟨lb, off + n * 2 + 1, none⟩ = some (.slice bo x.2.length bc)) (first | exact cc1 | exact CC0) (first | (go_at_call 161; refine (CR.out _ (by first | exact hw1 | exact W1)).mono ?_; rintro e w1 ⟨rfl, hw1⟩; have cc1 := HS.out _ hw1))
  all_goals
    go_wp2_with (first | (go_at_call 160; refine (CU.out _ _ _ (by first | exact hw1 | exact W1)).mono ?_; rintro e w2 ⟨v, rfl, hv, hw2⟩; have cc1 := HS.out _ hw2))
  all_goals
    go_ret
    exact ⟨_, rfl, by rw [← E.out _ ?_]; exact hv; simp; first | omega | (split <;> omega), W0.trans' hw2⟩
set_option maxHeartbeats 4000000 in
theorem root_any {w : World} {b bs : Nat} {ro : Option Addr} {rc : Nat} {L : List Sym} {R : List Ru} {lo : Option Addr} {l : List Ru} {n lc : Nat} (h : Cnd w b bs ro rc L R lo l n) (hu : Upto L R l 3 n) :
    Calls Tryz.prog 141 #[.agg #[.pointer (some ⟨b,0,none⟩),.slice lo l.length lc,.int .i64 (n : Int)]] w fun e w' => ∃ v,e = .returned v ∧ FltAt w' (askW L R l 3 n) v ∧ Same0 w w' := by
  obtain ⟨lb, off, ao, ac, bo, bc, x, rfl, hx, W0, CC0, HS, HA, CR, CU⟩ := h.opened lc
  have W1 : Same0 (w.alloc (.cells #[.pointer (some ⟨b, 0, none⟩), .slice (some ⟨lb, off, none⟩) l.length lc, .int .i64 (n : Int)] 202)) (w.alloc (.cells #[.pointer (some ⟨b, 0, none⟩), .slice (some ⟨lb, off, none⟩) l.length lc, .int .i64 (n : Int)] 202)).drew := Kept.drew (Kept.refl _ _)
  have f0 := field_left
  have f1 := field_right
  have hc : checkE L x.1 = 0 := by
    have := hu.1 1 (by omega) n h.hn
    simp only [ckB, askB, ← hx, Bool.and_eq_true, decide_eq_true_eq] at this
    exact this.1
  have hp : 0 < x.1.length := isT_pos (checkE_zero.1 hc).2.2
  have E : Hid (∀ q : Bool, q = defB L x.1[0] → (if q = true then [(0, -1)] else [(73, (n : Int))]) = askW L R l 3 n) := by
    intro q hq
    have e1 : x.1.headD (-1) = x.1[0] := by
      clear CC0 HS HA CR CU W0 W1 hc hx h hu
      obtain ⟨x1, x2⟩ := x
      cases x1 with
      | nil => simp at hp
      | cons y r => simp
    subst hq
    simp only [askW, ckB, askB, wrongL, ← hx, e1]
    rfl
  obtain ⟨ab, ao', rfl, hab⟩ : ∃ ab ao', ao = some ⟨ab, ao', none⟩ ∧ Hid (∀ ww, Same0 (w.alloc (.cells #[.pointer (some ⟨b, 0, none⟩), .slice (some ⟨lb, off, none⟩) l.length lc, .int .i64 (n : Int)] 202)) ww → ww.cell? ⟨ab, ao', none⟩ = some (.int .i64 x.1[0])) := by
    obtain ⟨ab, ao', e, hlt, hc⟩ := ((HA.out _ (Kept.refl _ _)).1).at'.get hp
    exact ⟨ab, ao', e, fun ww hk => (hk.cell (p := ⟨ab, ao', none⟩) hlt (fun f => f)).trans hc⟩
  have CD : Hid (∀ ww z, Same0 (w.alloc (.cells #[.pointer (some ⟨b, 0, none⟩), .slice (some ⟨lb, off, none⟩) l.length lc, .int .i64 (n : Int)] 202)) ww → Calls Tryz.prog 163 #[.agg #[.pointer (some ⟨b, 0, none⟩), .slice (some ⟨lb, off, none⟩) l.length lc, .int .i64 (n : Int)], .int .i64 z] ww fun e w' => e = .returned (.bool (defB L z)) ∧ Same0 (w.alloc (.cells #[.pointer (some ⟨b, 0, none⟩), .slice (some ⟨lb, off, none⟩) l.length lc, .int .i64 (n : Int)] 202)) w') := fun ww z hk => (isDefined_any (HA.out ww hk).2.2 _ _ _ _ _).mono (fun e w' ⟨q1, q2⟩ => ⟨q1, hk.trans' q2⟩)
  have i1 : (0 : Int) < (x.1.length : Int) := by omega
  have CC0 := And.intro (hab.out _ (Kept.refl _ _)) CC0
  have HS' : Hid (∀ ww, Same0 (w.alloc (.cells #[.pointer (some ⟨b, 0, none⟩), .slice (some ⟨lb, off, none⟩) l.length lc, .int .i64 (n : Int)] 202)) ww → ww.cell? ⟨ab, ao', none⟩ = some (.int .i64 x.1[0]) ∧ (ww.cell? ⟨b, 0, none⟩ = some (.pointer (some ⟨bs, 0, none⟩)) ∧ ww.cell? ⟨b, 1, none⟩ = some (.slice ro R.length rc)) ∧ (ww.cell? ⟨w.heap.size, 0, none⟩ = some (.pointer (some ⟨b, 0, none⟩)) ∧ ww.cell? ⟨w.heap.size, 1, none⟩ = some (.slice (some ⟨lb, off, none⟩) l.length lc) ∧ ww.cell? ⟨w.heap.size, 2, none⟩ = some (.int .i64 (n : Int))) ∧ ww.cell? ⟨lb, off + n * 2, none⟩ = some (.slice (some ⟨ab, ao', none⟩) x.1.length ac) ∧ ww.cell? ⟨lb, off + n * 2 + 1, none⟩ = some (.slice bo x.2.length bc)) := fun ww hk => ⟨hab.out ww hk, HS.out ww hk⟩
  clear h hu hx hab HS hc
  go_enter Tryz.func141, Tryz.ntmps141
  go_wp2
  go_region_held3 (fun w' => w'.cell? ⟨ab, ao', none⟩ = some (.int .i64 x.1[0]) ∧ (w'.cell? ⟨b, 0, none⟩ = some (.pointer (some ⟨bs, 0, none⟩)) ∧ w'.cell? ⟨b, 1, none⟩ = some (.slice ro R.length rc)) ∧ (w'.cell? ⟨w.heap.size, 0, none⟩ = some (.pointer (some ⟨b, 0, none⟩)) ∧ w'.cell? ⟨w.heap.size, 1, none⟩ = some (.slice (some ⟨lb, off, none⟩) l.length lc) ∧ w'.cell? ⟨w.heap.size, 2, none⟩ = some (.int .i64 (n : Int))) ∧ w'.cell? ⟨lb, off + n * 2, none⟩ = some (.slice (some ⟨ab, ao', none⟩) x.1.length ac) ∧ w'.cell? ⟨lb, off + n * 2 + 1, none⟩ = some (.slice bo x.2.length bc)) (first | exact cc1 | exact CC0) (first | (go_at_call 161; refine (CR.out _ (by first | exact hw1 | exact W1)).mono ?_; rintro e w1 ⟨rfl, hw1⟩; have cc1 := HS'.out _ hw1) | (go_at_call 163; refine (CD.out _ _ (by first | exact hw1 | exact W1)).mono ?_; rintro e w1 ⟨rfl, hw1⟩; have cc1 := HS'.out _ hw1) | (go_at_call 160; refine (CU.out _ _ _ (by first | exact hw1 | exact W1)).mono ?_; rintro e w2 ⟨v, rfl, hv, hw2⟩; have cc1 := HS'.out _ hw2))
  all_goals
    go_wp2
    go_ret
    exact ⟨_, rfl, by rw [← E.out _ rfl]; exact hv, W0.trans' hw2⟩
end Go.Proofs.YthamjjhioafkjaaGreat
namespace Go.Proofs.YthamjjhioafkjaaGreat
set_option maxRecDepth 100000
set_option linter.unusedVariables false
open Go.RowKit
attribute [local go_sem ↓] Go.wp_at_zero Go.wp_at_succ
set_option maxHeartbeats 4000000 in
theorem term_any {w : World} {b bs : Nat} {ro : Option Addr} {rc : Nat} {L : List Sym} {R : List Ru} {lo : Option Addr} {l : List Ru} {n lc : Nat} (h : Cnd w b bs ro rc L R lo l n) (hu : Upto L R l 1 n) :
    Calls Tryz.prog 139 #[.agg #[.pointer (some ⟨b,0,none⟩),.slice lo l.length lc,.int .i64 (n : Int)]] w fun e w' => ∃ v,e = .returned v ∧ FltAt w' (askW L R l 1 n) v ∧ Same0 w w' := by
  obtain ⟨lb, off, ao, ac, bo, bc, x, rfl, hx, W0, CC0, HS, HA, CR, CU⟩ := h.opened lc
  have W1 : Same0 (w.alloc (.cells #[.pointer (some ⟨b, 0, none⟩), .slice (some ⟨lb, off, none⟩) l.length lc, .int .i64 (n : Int)] 202)) (w.alloc (.cells #[.pointer (some ⟨b, 0, none⟩), .slice (some ⟨lb, off, none⟩) l.length lc, .int .i64 (n : Int)] 202)).drew := Kept.drew (Kept.refl _ _)
  have f0 := field_left
  have f1 := field_right
  have CF : Hid (∀ ww why c, (why = .nilIface ∨ ∃ t v, why = .iface t v) → Same0 (w.alloc (.cells #[.pointer (some ⟨b, 0, none⟩), .slice (some ⟨lb, off, none⟩) l.length lc, .int .i64 (n : Int)] 202)) ww → Calls Tryz.prog 162 #[.agg #[.pointer (some ⟨b, 0, none⟩), .slice (some ⟨lb, off, none⟩) l.length lc, .int .i64 (n : Int)], .int .i64 c, why] ww fun e w' => ∃ k, e = .returned (.iface 106 (.pointer (some ⟨k, 0, none⟩))) ∧ w'.heap[k]? = some (.cells #[.int .i64 c, .int .i64 (n : Int), why] 108 (0, 0)) ∧ Same0 (w.alloc (.cells #[.pointer (some ⟨b, 0, none⟩), .slice (some ⟨lb, off, none⟩) l.length lc, .int .i64 (n : Int)] 202)) w') := fun ww why c hw hk => (fault_any ww b _ _ _ why hw n c).mono (fun e w' ⟨k, q1, q2, q3⟩ => ⟨k, q1, q2, hk.trans' q3⟩)
  have CK : Hid (∀ ww so sc (t : List Int), Same0 (w.alloc (.cells #[.pointer (some ⟨b, 0, none⟩), .slice (some ⟨lb, off, none⟩) l.length lc, .int .i64 (n : Int)] 202)) ww → Arg ww so t sc → Calls Tryz.prog 52 #[.pointer (some ⟨bs, 0, none⟩), .slice so t.length sc] ww fun e w' => e = .returned (.int .i64 (checkE L t)) ∧ Same0 ww w' ∧ Same0 (w.alloc (.cells #[.pointer (some ⟨b, 0, none⟩), .slice (some ⟨lb, off, none⟩) l.length lc, .int .i64 (n : Int)] 202)) w') := fun ww so sc t hk ha => (check_any (HA.out ww hk).2.2.sig ha.at' (by have := ha.size; unfold maxLen; omega)).mono (fun e w' ⟨q1, q2⟩ => ⟨q1, q2, hk.trans' q2⟩)
  have E0 : Hid (checkE L x.1 = 0 → checkE L x.2 = 0 → askW L R l 1 n = [(0, -1)]) := fun h1 h2 => by simp only [askW, ckB, askB, ← hx]; simp [h1, h2]
  have E1 : Hid (¬ checkE L x.1 = 0 → askW L R l 1 n = [(71, (n : Int)), (checkE L x.1, -1)]) := fun h1 => by simp only [askW, ckB, askB, wrongL, ← hx]; simp [h1]
  have E2 : Hid (checkE L x.1 = 0 → ¬ checkE L x.2 = 0 → askW L R l 1 n = [(71, (n : Int)), (checkE L x.2, -1)]) := fun h1 h2 => by simp only [askW, ckB, askB, wrongL, ← hx]; simp [h1, h2]
  clear h hu hx
  go_enter Tryz.func139, Tryz.ntmps139
  go_wp2
  go_region_held3 (fun w' => (w'.cell? ⟨b, 0, none⟩ = some (.pointer (some ⟨bs, 0, none⟩)) ∧ w'.cell? ⟨b, 1, none⟩ = some (.slice ro R.length rc)) ∧ (w'.cell? ⟨w.heap.size, 0, none⟩ = some (.pointer (some ⟨b, 0, none⟩)) ∧ w'.cell? ⟨w.heap.size, 1, none⟩ = some (.slice (some ⟨lb, off, none⟩) l.length lc) ∧ w'.cell? ⟨w.heap.size, 2, none⟩ = some (.int .i64 (n : Int))) ∧ w'.cell? ⟨lb, off + n * 2, none⟩ = some (.slice ao x.1.length ac) ∧ w'.cell? ⟨lb, off + n * 2 + 1, none⟩ = some (.slice bo x.2.length bc)) (first | exact cc1 | exact CC0 | exact HS.out _ (Kept.alloc hw1 _)) (first | (go_at_call 161; refine (CR.out _ (by first | exact hw1 | exact W1)).mono ?_; rintro e w1 ⟨rfl, hw1⟩; have cc1 := HS.out _ hw1))
  have wg := heap_alloc_new w1 (.cells #[.slice ao x.1.length ac, .slice bo x.2.length bc] 64)
  have hg : Hid (∀ ww, Same0 (w1.alloc (.cells #[.slice ao x.1.length ac, .slice bo x.2.length bc] 64)) ww → (ww.cell? ⟨w1.heap.size, 0, none⟩ = some (.slice ao x.1.length ac) ∧ ww.cell? ⟨w1.heap.size, 1, none⟩ = some (.slice bo x.2.length bc)) ∧ Same0 (w.alloc (.cells #[.pointer (some ⟨b, 0, none⟩), .slice (some ⟨lb, off, none⟩) l.length lc, .int .i64 (n : Int)] 202)) ww) := fun ww hk => ⟨⟨cellAt (hk.at0 wg) 0, cellAt (hk.at0 wg) 1⟩, Same0.trans' (Kept.alloc hw1 _) hk⟩
  have K0 : Same0 (w1.alloc (.cells #[.slice ao x.1.length ac, .slice bo x.2.length bc] 64)) (w1.alloc (.cells #[.slice ao x.1.length ac, .slice bo x.2.length bc] 64)) := Kept.refl _ _
  go_wp2
  go_loopw [14] (fun i wr => (i = .int .i64 0 ∨ (i = .int .i64 1 ∧ Hid (checkE L x.1 = 0)) ∨ (i = .int .i64 2 ∧ Hid (checkE L x.1 = 0) ∧ Hid (checkE L x.2 = 0))) ∧ Same0 (w1.alloc (.cells #[.slice ao x.1.length ac, .slice bo x.2.length bc] 64)) wr) (fun i _ => 2 - (intOf i).toNat)
  case atStart => exact ⟨.inl rfl, K0⟩
  case round =>
    clear wg K0 CC0 W1
    obtain ⟨hi, hk⟩ := hrel
    obtain ⟨⟨g0, g1⟩, kw⟩ := hg.out _ hk
    obtain ⟨c1, c2, c3⟩ := HS.out _ kw
    obtain ⟨a1, a2, a3⟩ := HA.out _ kw
    rcases hi with rfl | ⟨rfl, z1⟩ | ⟨rfl, z1, z2⟩
    · by_cases hz : checkE L x.1 = 0
      · have Z : Hid (checkE L x.1 = 0) := hz
        have zz : (checkE L x.1 == 0) = true := by simpa using hz
        go_wp2_with (first | (go_at_call 52; refine (CK.out _ _ _ _ kw a1).mono ?_; rintro e w2 ⟨rfl, ks2, kw2⟩; obtain ⟨d1, d2, d3⟩ := HS.out _ kw2) | (go_at_call 162; refine (CF.out _ _ _ (.inr ⟨_, _, rfl⟩) kw2).mono ?_; rintro e w3 ⟨k, rfl, hk3, kw3⟩))
        exact ⟨⟨.inr (.inl ⟨rfl, Z⟩), hk.trans' ks2⟩, by simp [intOf]⟩
      · have zz : (checkE L x.1 == 0) = false := by simpa using hz
        have Z := E1.out hz
        clear E0 E1 E2
        go_wp2_with (first | (go_at_call 52; refine (CK.out _ _ _ _ kw a1).mono ?_; rintro e w2 ⟨rfl, ks2, kw2⟩; obtain ⟨d1, d2, d3⟩ := HS.out _ kw2) | (go_at_call 162; refine (CF.out _ _ _ (.inr ⟨_, _, rfl⟩) kw2).mono ?_; rintro e w3 ⟨k, rfl, hk3, kw3⟩))
        go_ret
        exact ⟨_, rfl, by rw [Z]; exact .inr ⟨by omega, k, _, rfl, hk3, .inl ⟨rfl, rfl, rfl⟩⟩, W0.trans' kw3⟩
    · by_cases hz : checkE L x.2 = 0
      · have Z : Hid (checkE L x.2 = 0) := hz
        have zz : (checkE L x.2 == 0) = true := by simpa using hz
        go_wp2_with (first | (go_at_call 52; refine (CK.out _ _ _ _ kw a2).mono ?_; rintro e w2 ⟨rfl, ks2, kw2⟩; obtain ⟨d1, d2, d3⟩ := HS.out _ kw2) | (go_at_call 162; refine (CF.out _ _ _ (.inr ⟨_, _, rfl⟩) kw2).mono ?_; rintro e w3 ⟨k, rfl, hk3, kw3⟩))
        exact ⟨⟨.inr (.inr ⟨rfl, z1, Z⟩), hk.trans' ks2⟩, by simp [intOf]⟩
      · have zz : (checkE L x.2 == 0) = false := by simpa using hz
        have Z := E2.out z1.out hz
        clear E0 E1 E2
        go_wp2_with (first | (go_at_call 52; refine (CK.out _ _ _ _ kw a2).mono ?_; rintro e w2 ⟨rfl, ks2, kw2⟩; obtain ⟨d1, d2, d3⟩ := HS.out _ kw2) | (go_at_call 162; refine (CF.out _ _ _ (.inr ⟨_, _, rfl⟩) kw2).mono ?_; rintro e w3 ⟨k, rfl, hk3, kw3⟩))
        go_ret
        exact ⟨_, rfl, by rw [Z]; exact .inr ⟨by omega, k, _, rfl, hk3, .inl ⟨rfl, rfl, rfl⟩⟩, W0.trans' kw3⟩
    · go_wp2
      go_ret
      exact ⟨_, rfl, by rw [E0.out z1.out z2.out]; exact .inl ⟨rfl, rfl, rfl⟩, W0.trans' kw⟩
end Go.Proofs.YthamjjhioafkjaaGreat
namespace Go.Proofs.YthamjjhioafkjaaGreat
set_option maxRecDepth 100000
set_option linter.unusedVariables false
open Go.RowKit
attribute [local go_sem ↓] Go.wp_at_zero Go.wp_at_succ
set_option maxHeartbeats 4000000 in
theorem linear_any {w : World} {b bs : Nat} {ro : Option Addr} {rc : Nat} {L : List Sym} {R : List Ru} {lo : Option Addr} {l : List Ru} {n lc : Nat} (h : Cnd w b bs ro rc L R lo l n) (hu : Upto L R l 4 n) :
    Calls Tryz.prog 142 #[.agg #[.pointer (some ⟨b,0,none⟩),.slice lo l.length lc,.int .i64 (n : Int)]] w fun e w' => ∃ v,e = .returned v ∧ FltAt w' (askW L R l 4 n) v ∧ Same0 w w' := by
  obtain ⟨lb, off, ao, ac, bo, bc, x, rfl, hx, W0, CC0, HS, HA, CR, CU⟩ := h.opened lc
  have W1 : Same0 (w.alloc (.cells #[.pointer (some ⟨b, 0, none⟩), .slice (some ⟨lb, off, none⟩) l.length lc, .int .i64 (n : Int)] 202)) (w.alloc (.cells #[.pointer (some ⟨b, 0, none⟩), .slice (some ⟨lb, off, none⟩) l.length lc, .int .i64 (n : Int)] 202)).drew := Kept.drew (Kept.refl _ _)
  have f0 := field_left
  have f1 := field_right
  have hc : checkE L x.1 = 0 := by
    have := hu.1 1 (by omega) n h.hn
    simp only [ckB, askB, ← hx, Bool.and_eq_true, decide_eq_true_eq] at this
    exact this.1
  have hm : x.1.length ≤ 2000 := (checkE_zero.1 hc).1
  have E : Hid (∀ q : Bool, (q = true ↔ negN x.1 = (varsL x.1).length) → (if q = true then [(0, -1)] else [(74, (n : Int))]) = askW L R l 4 n) := by
    intro q hq
    have e1 : q = decide (negN x.1 = (varsL x.1).length) := by cases q <;> simp_all
    subst e1
    simp only [askW, ckB, askB, wrongL, ← hx]
    rfl
  have hvl : (varsL x.1).length ≤ x.1.length := by have := vs_len [] x.1; simpa [varsL] using this
  have hnl := negN_le x.1
  have CV : Hid (∀ ww, Same0 (w.alloc (.cells #[.pointer (some ⟨b, 0, none⟩), .slice (some ⟨lb, off, none⟩) l.length lc, .int .i64 (n : Int)] 202)) ww → Calls Tryz.prog 164 #[.slice ao x.1.length ac] ww fun e w' => ∃ vo vc, e = .returned (.slice vo (varsL x.1).length vc) ∧ Same0 (w.alloc (.cells #[.pointer (some ⟨b, 0, none⟩), .slice (some ⟨lb, off, none⟩) l.length lc, .int .i64 (n : Int)] 202)) w') := fun ww hk => (tvars_any (HA.out ww hk).1.at' (by omega)).mono (fun e w' ⟨v, q1, q2, q3⟩ => by
    obtain ⟨vo, vc, rfl⟩ := row_shape q2
    exact ⟨vo, vc, q1, hk.trans' q3⟩)
  clear h hu hx hc W1
  have W1 : Same0 (w.alloc (.cells #[.pointer (some ⟨b, 0, none⟩), .slice (some ⟨lb, off, none⟩) l.length lc, .int .i64 (n : Int)] 202)) (w.alloc (.cells #[.pointer (some ⟨b, 0, none⟩), .slice (some ⟨lb, off, none⟩) l.length lc, .int .i64 (n : Int)] 202)) := Kept.refl _ _
  go_enter Tryz.func142, Tryz.ntmps142
  go_wp2_with (first | (go_at_call 161; refine (CR.out _ (by first | exact hw1 | exact W1)).mono ?_; rintro e w1 ⟨rfl, hw1⟩; have cc1 := HS.out _ hw1))
  obtain ⟨a1, a2, a3⟩ := HA.out _ hw1
  have HI : Hid (∀ k (hk : k < x.1.length), ∃ tb off', ao = some ⟨tb, off', none⟩ ∧ w1.cell? ⟨tb, off' + k, none⟩ = some (.int .i64 x.1[k])) := fun k hk => by
    obtain ⟨tb, off', e, _, hc⟩ := a1.at'.get hk
    exact ⟨tb, off', e, hc⟩
  go_loop [3, 11] (fun s i => ∃ k : Nat, k ≤ x.1.length ∧ i = .int .i64 (k : Int) ∧ s = .int .i64 ((negN (x.1.take k) : Nat) : Int)) (fun _ i => x.1.length - (intOf i).toNat)
  case atStart => exact ⟨0, Nat.zero_le _, rfl, rfl⟩
  case round =>
    obtain ⟨k, hk, rfl, rfl⟩ := hrel
    have b0 := negN_le (x.1.take k)
    have b1 : negN (x.1.take k) ≤ 2000 := by rw [List.length_take] at b0; omega
    clear b0
    by_cases hlt : k < x.1.length
    · obtain ⟨tb, off', rfl, hcell⟩ := HI.out k hlt
      have i1 : (0 : Int) ≤ (k : Int) := by omega
      have i2 : (k : Int) < (x.1.length : Int) := by omega
      have N : Hid (negN (x.1.take (k + 1)) = negN (x.1.take k) + if x.1[k] < 0 then 1 else 0) := negN_take hlt
      generalize negN (x.1.take k) = m at *
      by_cases hneg : x.1[k] < 0
      · go_wp2
        exact ⟨⟨k + 1, by omega, by go_num, by rw [N.out, if_pos hneg]; go_num⟩, by simp [intOf]; omega⟩
      · go_wp2
        exact ⟨⟨k + 1, by omega, by go_num, by rw [N.out, if_neg hneg]; rfl⟩, by simp [intOf]; omega⟩
    · obtain rfl : k = x.1.length := by omega
      rw [List.take_length]
      clear b1
      have cc1 := HS.out _ hw1
      go_wp2_with (first | (go_at_call 161; refine (CR.out _ (by first | exact hw1 | exact W1)).mono ?_; rintro e w1 ⟨rfl, hw1⟩; have cc1 := HS.out _ hw1) | (go_at_call 164; refine (CV.out _ hw1).mono ?_; rintro e w1 ⟨vo, vc, rfl, hw1⟩; have cc1 := HS.out _ hw1) | (go_at_call 160; refine (CU.out _ _ _ (by first | exact hw1 | exact W1)).mono ?_; rintro e w2 ⟨v, rfl, hv, hw2⟩; have cc1 := HS.out _ hw2))
      go_ret
      exact ⟨_, rfl, by rw [← E.out _ ?_]; exact hv; simp; try omega, W0.trans' hw2⟩
end Go.Proofs.YthamjjhioafkjaaGreat
