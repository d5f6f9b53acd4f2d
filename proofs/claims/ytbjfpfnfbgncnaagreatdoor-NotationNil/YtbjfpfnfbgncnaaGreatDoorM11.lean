import Derived.Test.YtbjfpfnfbgncnaaGreatDoorM10
import Derived.Test.YtbjfpfnfbgncnaaGreatDoorM09
import Derived.Deep.RegionLaw
import Derived.Deep.DrawnRows
import Derived.Deep.DeepCutAuto
import Derived.Test.YtbjfpfnfbgncnaaGreatDoorM07
import Derived.Deep.Slices
import Derived.Deep.Strs
import Derived.ProofKit
/- The walks of the document's signature (ref01): Find, Add, Of; and of the law's small helpers. -/
namespace Go.Proofs.YtbjfpfnfbgncnaaGreatDoor
set_option maxRecDepth 100000
open Go.RowKit
attribute [local go_sem ↓] Go.wp_at_zero Go.wp_at_succ
def findR (L : List Sym) (s : ByteArray) : Int := match findI L s with | some i => (i : Int) | none => -1
theorem findI_first {L : List Sym} {s : ByteArray} {k : Nat} (hk : k < L.length) (h : L[k].name = s) (hb : ∀ j (hj : j < L.length), j < k → L[j].name ≠ s) : findI L s = some k := by
  induction L generalizing k with
  | nil => simp at hk
  | cons y r ih =>
    simp only [findI]
    cases k with
    | zero => simp at h; simp [h]
    | succ j =>
      have h0 : y.name ≠ s := hb 0 (by simp) (by omega)
      rw [if_neg h0, ih (k := j) (by simpa using hk) (by simpa using h) (fun i hi hij => by have := hb (i + 1) (by simpa using hi) (by omega); simpa using this)]
      rfl
theorem findI_all {L : List Sym} {s : ByteArray} (hb : ∀ j (hj : j < L.length), L[j].name ≠ s) : findI L s = none := by
  induction L with
  | nil => rfl
  | cons y r ih =>
    simp only [findI]
    have h0 : y.name ≠ s := hb 0 (by simp)
    rw [if_neg h0, ih (fun j hj => by have := hb (j + 1) (by simpa using hj); simpa using this)]
    rfl
theorem row_sym {w : World} {base : Nat} {L : List Sym} {ao : Option Addr} {cap : Nat} (h : w.ownsRow base 95 3 (.slice ao L.length cap) L.length (symCells L)) {i : Nat} (hi : i < L.length) :
    ∃ g, ao = some ⟨g, 0, none⟩ ∧ g < w.heap.size ∧ w.cell? ⟨g, i * 3, none⟩ = some (.string L[i].name) ∧ w.cell? ⟨g, i * 3 + 1, none⟩ = some (.int .i64 L[i].ar) ∧ w.cell? ⟨g, i * 3 + 2, none⟩ = some (.bool L[i].df) := by
  obtain ⟨g, cap', hv, _, hlt⟩ := h.form (by omega)
  obtain ⟨rfl, _, rfl⟩ : ao = some ⟨g, 0, none⟩ ∧ L.length = L.length ∧ cap = cap' := by simpa using hv
  have hc := fun j hj => h.cellAt j hj
  obtain ⟨a1, a2, a3⟩ := symCells_at hi
  refine ⟨g, rfl, hlt, ?_, ?_, ?_⟩
  · rw [hc _ (by omega), a1]
  · rw [hc _ (by omega), a2]
  · rw [hc _ (by omega), a3]
set_option maxHeartbeats 1000000 in
theorem rfind_any {w : World} {base : Nat} {L : List Sym} {v : Value} (hr : w.ownsRow base 95 3 v L.length (symCells L)) (hlen : L.length ≤ 64) (s : ByteArray) :
    Calls Tryz.prog 68 #[v, .string s] w fun e w' => e = .returned (.int .i64 (findR L s)) ∧ w' = w := by
  obtain ⟨ao, cap, rfl⟩ := row_shape hr
  go_enter Tryz.func68, Tryz.ntmps68
  go_wp2
  go_loop [5] (fun i => ∃ k : Nat, k ≤ L.length ∧ i = .int .i64 k ∧ ∀ j (hj : j < L.length), j < k → L[j].name ≠ s) (fun i => L.length - (intOf i).toNat)
  case atStart => exact ⟨0, Nat.zero_le _, rfl, fun j _ h => by omega⟩
  case round =>
    obtain ⟨k, hk, rfl, hal⟩ := hrel
    by_cases hlt : k < L.length
    · obtain ⟨g, rfl, hg, x0, x1, x2⟩ := row_sym hr hlt
      have i1 : (0 : Int) ≤ (k : Int) := by omega
      have i2 : (k : Int) < (L.length : Int) := by omega
      by_cases he : L[k].name = s
      · have hf : findR L s = (k : Int) := by rw [findR, findI_first hlt he hal]
        have HF : Hid (findR L s = (k : Int)) := hf
        clear hf
        go_wp2
        go_ret
        exact ⟨ret_int HF.out.symm, rfl⟩
      · have hnx : ∀ j (hj : j < L.length), j < k + 1 → L[j].name ≠ s := by
          intro j hj h2
          by_cases e : j = k
          · subst e; exact he
          · exact hal j hj (by omega)
        have he' := str_ne he
        go_wp2
        go_round
        case rel => exact ⟨k + 1, by omega, by go_num, hnx⟩
        case measure => simp [intOf]; omega
    · have hf : findR L s = -1 := by rw [findR, findI_all (fun j hj => hal j hj (by omega))]
      have HF : Hid (findR L s = -1) := hf
      clear hf
      go_wp2
      go_ret
      exact ⟨ret_int HF.out.symm, rfl⟩
/-- Block rb is the document's signature of these symbols. -/
structure RefAt (w : World) (rb : Nat) (L : List Sym) (rv : Value) : Prop where
  blk : w.heap[rb]? = some (.cells #[rv] 91 (0, 0))
  row : w.ownsRow 0 95 3 rv L.length (symCells L)
  apart : rv.ownBlock ≠ some rb
def RFoot (rb : Nat) (rv : Value) (k : Nat) : Prop := k = rb ∨ rv.ownBlock = some k
theorem RefAt.kept {S : Nat → Prop} {w w' : World} {rb : Nat} {L : List Sym} {rv : Value} (h : RefAt w rb L rv) (hk : Kept S w w') (hn : ∀ k, RFoot rb rv k → ¬ S k) : RefAt w' rb L rv :=
  ⟨hk.at h.blk (hn rb (.inl rfl)), hk.row h.row (fun k e => hn k (.inr e)), h.apart⟩
theorem RefAt.lt {w : World} {rb : Nat} {L : List Sym} {rv : Value} (h : RefAt w rb L rv) : ∀ k, RFoot rb rv k → k < w.heap.size := by
  intro k hk
  rcases hk with rfl | e
  · exact lt_of_at h.blk
  · exact (h.row.lt k e).2
theorem RefAt.c0 {w : World} {rb : Nat} {L : List Sym} {rv : Value} (h : RefAt w rb L rv) : w.cell? ⟨rb, 0, none⟩ = some rv := cellAt h.blk 0
theorem RefAt.f0 {w : World} {rb : Nat} {L : List Sym} {rv : Value} (h : RefAt w rb L rv) : w.frozen? ⟨rb, 0, none⟩ = false := frozenAt h.blk 0
/-- What ref's Add leaves in memory. -/
def RMoved (w : World) (rb : Nat) (rv : Value) (L' : List Sym) (w' : World) : Prop :=
  ∃ rv', RefAt w' rb L' rv' ∧ Kept (RFoot rb rv) w w' ∧ ∀ k, RFoot rb rv' k → RFoot rb rv k ∨ w.heap.size ≤ k
theorem findR_some {L : List Sym} {s : ByteArray} (h : (findI L s).isSome = true) : 0 ≤ findR L s := by
  unfold findR
  cases hf : findI L s with
  | none => simp [hf] at h
  | some i => simp
theorem findR_none {L : List Sym} {s : ByteArray} (h : (findI L s).isSome = false) : findR L s = -1 := by
  unfold findR
  cases hf : findI L s with
  | none => rfl
  | some i => simp [hf] at h
set_option maxHeartbeats 2000000 in
theorem radd_no {w : World} {rb : Nat} {L : List Sym} {rv : Value} (h : RefAt w rb L rv) (hlen : L.length ≤ 64) (x : Sym) (hs : x.name.size ≤ maxLen) (hz : addErr L x ≠ 0) :
    Calls Tryz.prog 40 #[.pointer (some ⟨rb, 0, none⟩), symV x] w fun e w' => e = .returned (.tuple #[.int .i64 0, .int .i64 (addErr L x)]) ∧ Kept (fun _ => False) w w' := by
  have h1 : RefAt (w.alloc (boxOf x)) rb L rv := h.kept (Kept.alloc (Kept.refl (fun _ => False) w) _) (fun _ _ f => f)
  have h2 : ∀ m, RefAt ((w.alloc (boxOf x)).drewN m) rb L rv := fun m => h1.kept (Kept.drewN (Kept.refl (fun _ => False) _) m) (fun _ _ f => f)
  obtain ⟨ao, cap, rfl⟩ := row_shape h.row
  have c0 := h1.c0
  cases hn : nameB x.name with
  | false =>
    have he : addErr L x = 10 := by simp [addErr, hn]
    have HE : Hid (addErr L x = 10) := he
    clear he
    go_enter Tryz.func40, Tryz.ntmps40
    go_wp2_with (first | (go_at_call 11; refine (rIsName_any _ _ hs).mono ?_; rintro e w' ⟨rfl, rfl⟩))
    go_ret2
    exact ⟨by rw [HE.out]; rfl, Kept.alloc (Kept.refl _ w) _⟩
  | true =>
    by_cases ha : x.ar < 0
    · have HE : Hid (addErr L x = 11) := by show addErr L x = 11; simp [addErr, hn, ha]
      go_enter Tryz.func40, Tryz.ntmps40
      go_wp2_with (first | (go_at_call 11; refine (rIsName_any _ _ hs).mono ?_; rintro e w' ⟨rfl, rfl⟩))
      go_ret2
      exact ⟨by rw [HE.out]; rfl, Kept.alloc (Kept.refl _ w) _⟩
    · by_cases hb : 6 < x.ar
      · have HE : Hid (addErr L x = 11) := by show addErr L x = 11; simp [addErr, hn, hb]
        go_enter Tryz.func40, Tryz.ntmps40
        go_wp2_with (first | (go_at_call 11; refine (rIsName_any _ _ hs).mono ?_; rintro e w' ⟨rfl, rfl⟩))
        go_ret2
        exact ⟨by rw [HE.out]; rfl, Kept.alloc (Kept.refl _ w) _⟩
      · cases hf : (findI L x.name).isSome with
        | true =>
          have HE : Hid (addErr L x = 12) := by show addErr L x = 12; simp [addErr, hn, ha, hb, hf]
          have hfr := findR_some hf
          go_enter Tryz.func40, Tryz.ntmps40
          go_wp2_with (first | (go_at_call 11; refine (rIsName_any _ _ hs).mono ?_; rintro e w' ⟨rfl, rfl⟩))
          go_quiet ((go_at_call 68; exact Calls.quiet_of_same (rfind_any (h2 _).row hlen x.name)))
          go_wp2
          go_ret2
          exact ⟨by rw [HE.out]; rfl, Kept.drewN (Kept.alloc (Kept.refl _ w) _) _⟩
        | false =>
          have hm : 64 ≤ L.length := by
            rcases Nat.lt_or_ge L.length 64 with h | h
            · exact absurd (by simp [addErr, hn, ha, hb, hf]; omega) hz
            · exact h
          have HE : Hid (addErr L x = 13) := by show addErr L x = 13; simp [addErr, hn, ha, hb, hf, hm]
          have hfr := findR_none hf
          go_enter Tryz.func40, Tryz.ntmps40
          go_wp2_with (first | (go_at_call 11; refine (rIsName_any _ _ hs).mono ?_; rintro e w' ⟨rfl, rfl⟩))
          go_quiet ((go_at_call 68; exact Calls.quiet_of_same (rfind_any (h2 _).row hlen x.name)))
          go_wp2
          go_ret2
          exact ⟨by rw [HE.out]; rfl, Kept.drewN (Kept.alloc (Kept.refl _ w) _) _⟩
end Go.Proofs.YtbjfpfnfbgncnaaGreatDoor
/- The walk of the document's Add where it takes the symbol; of its Of; of sameInts and pick. -/
namespace Go.Proofs.YtbjfpfnfbgncnaaGreatDoor
set_option maxRecDepth 100000
open Go.RowKit
attribute [local go_sem ↓] Go.wp_at_zero Go.wp_at_succ
theorem radd_end {w wc w1 : World} {rb : Nat} {L : List Sym} {rv : Value} {x : Sym} {gg cap : Nat} (h : RefAt w rb L rv) (hrc : RefAt wc rb L rv) (hkp : Kept (fun _ => False) w wc)
    (hown1 : w1.ownsRow 0 95 3 (.slice (some ⟨gg, 0, none⟩) (L.length + 1) cap) (L.length + 1) (symCells L ++ [.string x.name, .int .i64 x.ar, .bool x.df]))
    (hgrow : (wc.alloc (boxOf x)).drew.grownBy w1 rv.ownBlock) (hat : rv.ownBlock = some gg ∨ gg = wc.heap.size + 1) :
    RMoved w rb rv (L ++ [x]) (w1.setCell ⟨rb, 0, none⟩ (.slice (some ⟨gg, 0, none⟩) (L.length + 1) cap)) := by
  have lb := lt_of_at h.blk
  have lbc := lt_of_at hrc.blk
  have hb1 := blk_grown hgrow hrc.blk hrc.apart
  have hgb : gg ≠ rb := by
    rcases hat with e | e
    · intro e'; exact h.apart (by rw [e, e'])
    · omega
  have hk1 : Kept (RFoot rb rv) wc w1 := Kept.grown (Kept.drew (Kept.alloc (Kept.refl _ wc) _)) hgrow (fun _ e _ => .inr e)
  have hk2 : Kept (RFoot rb rv) wc (w1.setCell ⟨rb, 0, none⟩ (.slice (some ⟨gg, 0, none⟩) (L.length + 1) cap)) := Kept.setCell hk1 (fun _ => .inl rfl) _
  have hk3 : Kept (fun k => k = rb) w1 (w1.setCell ⟨rb, 0, none⟩ (.slice (some ⟨gg, 0, none⟩) (L.length + 1) cap)) := Kept.setCell (S := fun k => k = rb) (p := ⟨rb, 0, none⟩) (Kept.refl _ _) (fun _ => rfl) _
  refine ⟨_, ⟨by rw [setAt hb1]; rfl, ?_, by simpa [Value.ownBlock] using hgb⟩, ?_, ?_⟩
  · rw [symCells_snoc]
    have := hk3.row hown1 (fun k e e' => by simp [Value.ownBlock] at e; omega)
    simpa using this
  · exact (hkp.mono (fun _ _ f => f.elim)).trans hk2 (fun _ _ e => e)
  · intro k hk
    rcases hk with e | e
    · exact .inl (.inl e)
    · simp [Value.ownBlock] at e
      subst e
      rcases hat with e | e
      · exact .inl (.inr e)
      · right; have := hkp.size; omega
set_option maxHeartbeats 2000000 in
theorem radd_ok {w : World} {rb : Nat} {L : List Sym} {rv : Value} (h : RefAt w rb L rv) (x : Sym) (hs : x.name.size ≤ maxLen) (hz : addErr L x = 0) :
    Calls Tryz.prog 40 #[.pointer (some ⟨rb, 0, none⟩), symV x] w fun e w' => e = .returned (.tuple #[.int .i64 (L.length : Int), .int .i64 0]) ∧ RMoved w rb rv (L ++ [x]) w' := by
  have h1 : RefAt (w.alloc (boxOf x)) rb L rv := h.kept (Kept.alloc (Kept.refl (fun _ => False) w) _) (fun _ _ f => f)
  have h2 : ∀ m, RefAt ((w.alloc (boxOf x)).drewN m) rb L rv := fun m => h1.kept (Kept.drewN (Kept.refl (fun _ => False) _) m) (fun _ _ f => f)
  obtain ⟨ao, cap, rfl⟩ := row_shape h.row
  have c0 := h1.c0
  obtain ⟨hf, hn, hm⟩ := add_zero hz
  have hlen : L.length ≤ 64 := by omega
  have har := add_ar hz
  have ha : ¬ x.ar < 0 := by omega
  have hb : ¬ 6 < x.ar := by omega
  have hfr : findR L x.name = -1 := findR_none (by rw [hf]; rfl)
  go_enter Tryz.func40, Tryz.ntmps40
  go_wp2_with (first | (go_at_call 11; refine (rIsName_any _ _ hs).mono ?_; rintro e w' ⟨rfl, rfl⟩))
  go_quiet ((go_at_call 68; exact Calls.quiet_of_same (rfind_any (h2 _).row hlen x.name)))
  have hrc := h2 nq
  have hbx : ((w.alloc (boxOf x)).drewN nq).heap[w.heap.size]? = some (boxOf x) := heap_alloc_new w _
  have hkp : Kept (fun _ => False) w ((w.alloc (boxOf x)).drewN nq) := Kept.drewN (Kept.alloc (Kept.refl _ w) _) nq
  obtain ⟨wc, hwc⟩ : ∃ wc, (w.alloc (boxOf x)).drewN nq = wc := ⟨_, rfl⟩
  rw [hwc] at hrc hbx hkp ⊢
  clear hwc c0
  have d0 := hrc.c0
  go_upto_region 10 with fail
  go_cut [] (fun w' => RMoved w rb (.slice ao L.length cap) (L ++ [x]) w')
  case first =>
    obtain ⟨i0, hi0, hz0, hz1, hz2⟩ := info_parts info_Symbol
    have hn1 : L.length + 1 ≤ maxLen := by unfold maxLen; omega
    have hn2 : (L.length + 1) * 32 ≤ 140737488355328 := by omega
    have g0 := hrc.f0
    have x0 : wc.cell? ⟨w.heap.size, 0, none⟩ = some (.string x.name) := cellAt hbx 0
    have x1 : wc.cell? ⟨w.heap.size, 1, none⟩ = some (.int .i64 x.ar) := cellAt hbx 1
    have x2 : wc.cell? ⟨w.heap.size, 2, none⟩ = some (.bool x.df) := cellAt hbx 2
    have d0' : (wc.alloc (boxOf x)).cell? ⟨rb, 0, none⟩ = some (.slice ao L.length cap) := cellAt ((heap_alloc_old wc _ (lt_of_at hrc.blk)).trans hrc.blk) 0
    go_region_law ((refine step_append_lies _ (by rfl) _ _ _ (by rfl) 0 95 i0 _ 3 32 Tryz.underlying45 hi0 hz0 hz1 hz2 rfl (by omega) (.slice ao L.length cap) L.length (symCells L) (by rfl) ((hrc.row.alloc _).drew) ⟨wc.heap.size, 0, none⟩ 1 1 [.string x.name, .int .i64 x.ar, .bool x.df] (by rfl) (by rfl) (World.news_of_block (cs := #[.string x.name, .int .i64 x.ar, .bool x.df]) (t := 95) (fr := (0, 0)) (heap_alloc_new wc _)) (by simp [Value.oneCell']) (by omega) hn1 hn2 (by omega) (wc.heap.size + 1) (by simp) ?_; intro gg cap w1 hown1 hgrow hat hlt; have hb1 := blk_grown hgrow hrc.blk hrc.apart; have k0 := cellAt hb1 0; have k1 := frozenAt hb1 0; simp only [List.getElem?_toArray, List.getElem?_cons_zero] at k0))
    all_goals
      go_wp2
      go_meet
      case rel => exact radd_end h hrc hkp hown1 hgrow hat
  case rest =>
    obtain ⟨rv', hr', hk', hf'⟩ := hcut
    obtain ⟨ao', cap', rfl⟩ := row_shape hr'.row
    have r0 := hr'.c0
    simp only [List.length_append, List.length_cons, List.length_nil] at r0
    go_wp2
    go_ret2
    exact ⟨by simp, _, hr', hk', hf'⟩
theorem radd_any {w : World} {rb : Nat} {L : List Sym} {rv : Value} (h : RefAt w rb L rv) (hlen : L.length ≤ 64) (x : Sym) (hs : x.name.size ≤ maxLen) :
    Calls Tryz.prog 40 #[.pointer (some ⟨rb, 0, none⟩), symV x] w fun e w' => e = .returned (.tuple #[.int .i64 (addN L x), .int .i64 (addErr L x)]) ∧ RMoved w rb rv (addL L x) w' := by
  by_cases hz : addErr L x = 0
  · rw [addN, addL, if_pos hz, if_pos hz, hz]; exact radd_ok h x hs hz
  · rw [addN, addL, if_neg hz, if_neg hz]
    refine (radd_no h hlen x hs hz).mono ?_
    rintro e w' ⟨rfl, hk⟩
    exact ⟨rfl, rv, h.kept hk (fun _ _ f => f), hk.mono (fun _ _ f => f.elim), fun k hk => .inl hk⟩
end Go.Proofs.YtbjfpfnfbgncnaaGreatDoor
/- Arguments that are lists of symbols, opened: what the cells of each element hold. -/
namespace Go.Proofs.YtbjfpfnfbgncnaaGreatDoor
open Go.RowKit Go.Deep
/-- A list of symbols that lies in memory. -/
def SymsAt (w : World) (ao : Option Addr) (len : Nat) (xs : List Sym) : Prop :=
  xs.length = len ∧ (len = 0 ∨ ∃ b off, ao = some ⟨b, off, none⟩ ∧ b < w.heap.size ∧ ∀ i (h : i < xs.length), w.cell? ⟨b, off + i * 3, none⟩ = some (.string xs[i].name) ∧ w.cell? ⟨b, off + i * 3 + 1, none⟩ = some (.int .i64 xs[i].ar) ∧ w.cell? ⟨b, off + i * 3 + 2, none⟩ = some (.bool xs[i].df)) ∧
  ∀ x ∈ xs, x.name.size ≤ maxLen ∧ (Lit.int .i64 x.ar).wf = true
theorem SymsAt.kept {w w' : World} {ao : Option Addr} {len : Nat} {xs : List Sym} (h : SymsAt w ao len xs) (hb : Below w.heap.size w w') : SymsAt w' ao len xs := by
  obtain ⟨h1, h2, h3⟩ := h
  refine ⟨h1, h2.imp id ?_, h3⟩
  rintro ⟨b, off, e, hlt, hc⟩
  refine ⟨b, off, e, Nat.lt_of_lt_of_le hlt hb.size, fun i hi => ?_⟩
  obtain ⟨a1, a2, a3⟩ := hc i hi
  exact ⟨by rw [hb.cell hlt]; exact a1, by rw [hb.cell hlt]; exact a2, by rw [hb.cell hlt]; exact a3⟩
section
variable {H : Type} {enc : TypeId × Value → H} {w : World} {spare : Nat → Bool} {held : Bool}
theorem cells_Symbol : Tryz.prog.cellsOf 95 = 3 := by kernel_rfl
theorem cells_string : Tryz.prog.cellsOf 9 = 1 := by kernel_rfl
theorem cells_int : Tryz.prog.cellsOf 3 = 1 := by kernel_rfl
theorem cells_bool : Tryz.prog.cellsOf 4 = 1 := by kernel_rfl
set_option maxRecDepth 100000 in
theorem open_sym {fuel : Nat} {cs : List Value} {x : DataW H × List MemPlace} (h : DataW.trod enc Tryz.prog w 0 spare held fuel 95 cs = some x) :
    ∃ s : Sym, cs = [.string s.name, .int .i64 s.ar, .bool s.df] ∧ s.name.size ≤ maxLen ∧ (Lit.int .i64 s.ar).wf = true := by
  obtain ⟨y0, y1, y2, n, _, hl, h0, h1, h2⟩ := trod_struct3 Tryz.underlying95 h
  rw [cells_Symbol] at hl
  match cs, hl with
  | [c0, c1, c2], _ =>
    simp only [cells_string, cells_int, cells_bool, List.drop_zero, List.take_succ_cons, List.take_zero, List.drop_succ_cons] at h0 h1 h2
    obtain ⟨s, e0, _, hs⟩ := DataW.trod_string Tryz.underlying9 h0
    obtain ⟨a, e1, _, ha⟩ := DataW.trod_int Tryz.underlying3 h1
    obtain ⟨d, e2, _⟩ := DataW.trod_bool Tryz.underlying4 h2
    simp only [List.cons.injEq, and_true] at e0 e1 e2
    exact ⟨⟨s, a, d⟩, by rw [e0, e1, e2], hs, ha⟩
set_option maxRecDepth 100000 in
theorem open_elems {t e c fuel : Nat} {ao : Option Addr} {len cap : Nat} {x : DataW H × List MemPlace} (ht : Tryz.prog.underlying t = some (.slice e)) (hc : Tryz.prog.cellsOf e = c) (h0 : 0 < c) (h : DataW.trod enc Tryz.prog w 0 spare held fuel t [.slice ao len cap] = some x) :
    (ao = none ∧ len = 0 ∧ cap = 0) ∨ ∃ a, ao = some a ∧ len ≤ cap ∧ cap ≤ maxLen ∧ ∀ i, i < len → a = ⟨a.block, a.off, none⟩ ∧ a.block < w.heap.size ∧ ∃ cs n y, cs.length = c ∧ (∀ j, j < c → w.cell? ⟨a.block, a.off + i * c + j, none⟩ = cs[j]?) ∧ DataW.trod enc Tryz.prog w 0 spare held n e cs = some y := by
  rcases open_slice ht h with ⟨hcs, _⟩ | ⟨a, len', cap', m, n, D, Pl, hcs, _, hl, hm, hmm, rfl, hx⟩
  · simp at hcs; exact .inl ⟨hcs.1, hcs.2.1, hcs.2.2⟩
  · simp at hcs
    obtain ⟨rfl, rfl, rfl⟩ := hcs
    refine .inr ⟨a, rfl, hl, hm, fun i hi => ?_⟩
    have hmi : i < m := by rw [hmm]; split <;> omega
    have hm0 : 0 < m := by omega
    obtain ⟨cs0, g0, _⟩ := hx 0 hm0
    rw [hc] at g0
    obtain ⟨_, gl, gc⟩ := World.cells?_some g0
    have hsp : a.spot = none := by
      have := gc 0 h0
      have hv : cs0[0]? = some (cs0[0]'(by omega)) := List.getElem?_eq_getElem (by omega)
      rw [hv] at this
      simp [Addr.add] at this
      exact World.cell?_spot this
    have hlt : a.block < w.heap.size := World.cells?_block (by simpa [Addr.add] using g0) h0
    have ea : a = ⟨a.block, a.off, none⟩ := by cases a; simp_all
    obtain ⟨cs, g1, g2⟩ := hx i hmi
    rw [hc] at g1
    obtain ⟨_, gl1, gc1⟩ := World.cells?_some g1
    refine ⟨ea, hlt, cs, n, _, gl1, fun j hj => ?_, g2⟩
    rw [← gc1 j hj, add_add]
    congr 1
    unfold Addr.add
    split
    · rw [ea]; simp; omega
    · simp
set_option maxRecDepth 100000 in
theorem open_syms {fuel : Nat} {ao : Option Addr} {len cap : Nat} {x : DataW H × List MemPlace} (h : DataW.trod enc Tryz.prog w 0 spare held fuel 45 [.slice ao len cap] = some x) : ∃ xs, SymsAt w ao len xs ∧ len ≤ maxLen := by
  rcases open_elems Tryz.underlying45 cells_Symbol (by omega) h with ⟨rfl, rfl, rfl⟩ | ⟨a, rfl, hl1, hl2, hall⟩
  · exact ⟨[], ⟨rfl, .inl rfl, by simp⟩, by simp⟩
  · have each : ∀ i, i < len → ∃ s : Sym, w.cell? ⟨a.block, a.off + i * 3, none⟩ = some (.string s.name) ∧ w.cell? ⟨a.block, a.off + i * 3 + 1, none⟩ = some (.int .i64 s.ar) ∧ w.cell? ⟨a.block, a.off + i * 3 + 2, none⟩ = some (.bool s.df) ∧ s.name.size ≤ maxLen ∧ (Lit.int .i64 s.ar).wf = true := by
      intro i hi
      obtain ⟨_, _, cs, n, y, hl, hcell, hy⟩ := hall i hi
      obtain ⟨s, rfl, hs, ha⟩ := open_sym hy
      exact ⟨s, by simpa using hcell 0 (by omega), by simpa using hcell 1 (by omega), by simpa using hcell 2 (by omega), hs, ha⟩
    obtain ⟨f, hf⟩ := Classical.axiomOfChoice (r := fun (i : Fin len) (s : Sym) => w.cell? ⟨a.block, a.off + i * 3, none⟩ = some (.string s.name) ∧ w.cell? ⟨a.block, a.off + i * 3 + 1, none⟩ = some (.int .i64 s.ar) ∧ w.cell? ⟨a.block, a.off + i * 3 + 2, none⟩ = some (.bool s.df) ∧ s.name.size ≤ maxLen ∧ (Lit.int .i64 s.ar).wf = true) (fun i => each i i.2)
    refine ⟨List.ofFn f, ⟨by simp, ?_, ?_⟩, by omega⟩
    · by_cases h0 : len = 0
      · exact .inl h0
      · obtain ⟨ea, hlt, _⟩ := hall 0 (by omega)
        refine .inr ⟨a.block, a.off, by rw [← ea], hlt, fun i hi => ?_⟩
        have hi' : i < len := by simpa using hi
        have := hf ⟨i, hi'⟩
        simp only [List.getElem_ofFn]
        exact ⟨this.1, this.2.1, this.2.2.1⟩
    · intro x hx
      obtain ⟨i, rfl⟩ := (List.mem_ofFn.1 hx)
      exact ⟨(hf i).2.2.2.1, (hf i).2.2.2.2⟩
set_option maxRecDepth 100000 in
theorem open_symv {r : Go.Reach} {b0 : Nat} {v : Value} {d : DataW H} {p : List MemPlace} (hv : Value.okWide Tryz.prog w r b0 95 v) (h : DataW.Trod enc Tryz.prog w 0 spare held 95 v d p) :
    ∃ x : Sym, v = .agg #[.string x.name, .int .i64 x.ar, .bool x.df] ∧ x.name.size ≤ maxLen := by
  obtain ⟨cs, rfl, _⟩ := Go.WideShapes.okWide_struct Tryz.underlying95 hv
  obtain ⟨fuel, hf⟩ := h
  obtain ⟨x, hx, hs, _⟩ := open_sym hf
  refine ⟨x, ?_, hs⟩
  have : cs = #[.string x.name, .int .i64 x.ar, .bool x.df] := by
    apply Array.toList_inj.1
    simpa [Value.cells] using hx
  rw [this]
end
end Go.Proofs.YtbjfpfnfbgncnaaGreatDoor
